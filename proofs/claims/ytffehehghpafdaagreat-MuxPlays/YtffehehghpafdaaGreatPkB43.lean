/- Part 44 of the texts on which the proofs of layer 13 rest: contracts of Go functions. -/
import Derived.Test.YtffehehghpafdaaGreatPkB30
import Derived.Test.YtffehehghpafdaaGreatPkB40
import Derived.Test.YtffehehghpafdaaGreatPkB41
import Derived.Test.YtffehehghpafdaaGreatPkB42
namespace Go.Proofs.YtffehehghpafdaaGreat
set_option maxRecDepth 100000
open Go.RowKit Go.Maps Go.Sort Go.Shelf
def Rcv (E:List Ent) (lost:Nat) (f:Fm) (E':List Ent) (lost':Nat):Prop:=
 (pfE (prts E) f.2 f.1≠0∧E'=E∧lost'=lost+1)∨(∃ (j:Nat) (en:Ent),E[j]?=some en∧w4v f.2 1=en.L.P.c∧DE f.2 f.1=0∧E'=setN E j (drecv en.L.P en.L.mx en.L.n en.s f.1 f.2).s∧lost'=lost)
def Ok16 (E:List Ent):Prop:=∀ e,e ∈ E→Iv e.L.P e.s∧e.s.L.length<800000∧e.s.ms.t<9223372036854774000∧e.n<1000000
theorem pfE_zero {E:List Ent} {bs:Nat→Nat} {len:Nat} (h:pfE (prts E) bs len=0):∃ (j:Nat) (en:Ent),E[j]?=some en∧w4v bs 1=en.L.P.c∧DE bs len=0:=by
 unfold pfE at h
 by_cases hD:DE bs len≠0
 ·rw[if_pos hD]at h;exact absurd h hD
 ·rw[if_neg hD]at h
  by_cases hf:(fnd (prts E) (w4v bs 1)).isSome=true
  ·obtain⟨i,hi,hc⟩:=(fnd_prts E _).1 hf
   exact⟨i,E[i],List.getElem?_eq_getElem hi,by rw[← hc,cdE_get E i hi],by omega⟩
  ·rw[if_neg hf]at h;omega
section
variable {w0 w w':World} {x b r lost:Nat} {E:List Ent} {t:Nat→Thing}
theorem Wo.put4 (h:Wo w0 w x b r E lost t) (bb:Below w.heap.size w w') {a:Option Addr} {len cap:Nat} {bs:Nat→Nat} (hr:Row8 w' a len cap bs) (hf:∀ z,a=some z→w.heap.size≤z.block∧z.block<w'.heap.size):Wo w0 w' x b r E lost (putT t 4 (r8T a len cap bs)):=by
 have es:=h.es.put 4 (r8T a len cap bs) (by omega)
 have sz:=h.al.size
 refine⟨(h.al.below bb).turn 4 _ (Off.refl _ _) hr (fun k hk=>?_) (fun k hk i _ hm=>?_),?_,?_,?_,fun j hj=>(es j hj).1,fun j hj=>(es j hj).2,h.le,h.pc⟩
 ·simp[r8T]at hk
  obtain⟨z,hz,rfl⟩:=hk
  have:=hf z hz
  omega
 ·simp[r8T]at hk
  obtain⟨z,hz,rfl⟩:=hk
  have:=hf z hz
  have:=(h.al.lt i _ hm).2
  omega
 ·rw[putT_ne _ _ (by omega)];exact h.mx
 ·rw[putT_ne _ _ (by omega)];exact h.rm
 ·rw[putT_ne _ _ (by omega)];exact h.wd
theorem Wo.lostB (h:Wo w0 w x b r E lost t) {t1 t2:Nat→Thing} {V:List Nat} {v1 v2:Value} (A:Al w0 w' t2) (h0:t1 0=mxT b (prts E) (lost+1) V) (h1:∀ i,i≠0→t1 i=t i) (h2:t2 1=rmT r v1 v2 (E.map (·.L.e)) (E.map (·.n)) (lost+1)) (h3:∀ i,i≠1→t2 i=t1 i):Wo w0 w' x b r E (lost+1) t2:=by
 have ho:∀ i,i≠0→i≠1→t2 i=t i:=fun i a b=>(h3 i b).trans (h1 i a)
 refine⟨A,⟨V,(h3 0 (by omega)).trans h0⟩,⟨v1,v2,h2⟩,?_,fun j hj=>?_,fun j hj=>?_,h.le,h.pc⟩
 ·rw[ho 2 (by omega) (by omega)];exact h.wd
 ·rw[ho _ (by omega) (by omega)];exact h.dv j hj
 ·rw[ho _ (by omega) (by omega)];exact h.rw j hj
theorem Wo.foundB (h:Wo w0 w x b r E lost t) (hu:One E) {t1 t2:Nat→Thing} {V U U':List Nat} {v1 v2:Value} {j:Nat} {en:Ent} {s':Sd} (he:E[j]?=some en) (A:Al w0 w' t2) (h0:t1 0=mxT b (bump (prts E) en.L.P.c) lost V) (hd:t1 (10+2*j)=dvT (en.L.dr s') U) (h1:∀ i,i≠0→i≠10+2*j→i≠5→t1 i=t i) (h2:t2 1=rmT r v1 v2 (E.map (·.L.e)) ((E.map (·.n)).set j (en.n+1)) lost) (hw:t2 (11+2*j)=rwT (en.L.rr s') U') (h3:∀ i,i≠1→i≠11+2*j→t2 i=t1 i):Wo w0 w' x b r (setN E j s') lost t2:=by
 obtain⟨hj,hje⟩:=List.getElem?_eq_some_iff.1 he
 have ho:∀ i,i≠0→i≠1→i≠5→i≠10+2*j→i≠11+2*j→t2 i=t i:=fun i a b c d e=>(h3 i b e).trans (h1 i a d c)
 have hg:∀ i (hi:i < (setN E j s').length),(i=j∧(setN E j s')[i].L=en.L∧(setN E j s')[i].s=s')∨(i≠j∧∃ hi':i<E.length,(setN E j s')[i]=E[i]):=by
  intro i hi
  rw[setN_get]
  by_cases e:i=j
  ·subst e
   rw[if_pos rfl]
   exact .inl ⟨rfl,by rw[hje],rfl⟩
  ·exact .inr ⟨e,by simpa [setN] using hi,if_neg e⟩
 refine⟨A,⟨V,?_⟩,⟨v1,v2,?_⟩,?_,fun i hi=>?_,fun i hi=>?_,by rw[setN_len];exact h.le,fun e he'=>?_⟩
 ·rw[h3 0 (by omega) (by omega),h0,prts_setN hu he]
 ·rw[h2,n_setN he,setN_map E j s' _ (fun _ _ _=>rfl)]
 ·obtain⟨va,vm,vr,e⟩:=h.wd
  exact⟨va,vm,vr,by rw[ho 2 (by omega) (by omega) (by omega) (by omega) (by omega),e,setN_map E j s' _ (fun _ _ _=>rfl),setN_map E j s' _ (fun _ _ _=>rfl),setN_map E j s' _ (fun _ _ _=>rfl)]⟩
 ·rcases hg i hi with ⟨rfl,e1,e2⟩ | ⟨hne,hi',e⟩
  ·rw[e1,e2,h3 _ (by omega) (by omega)];exact⟨U,hd⟩
  ·rw[e,ho _ (by omega) (by omega) (by omega) (by omega) (by omega)];exact h.dv i hi'
 ·rcases hg i hi with ⟨rfl,e1,e2⟩ | ⟨hne,hi',e⟩
  ·rw[e1,e2];exact⟨U',hw⟩
  ·rw[e,ho _ (by omega) (by omega) (by omega) (by omega) (by omega)];exact h.rw i hi'
 ·obtain⟨i,hi,rfl⟩:=List.getElem_of_mem he'
  rcases hg i hi with ⟨rfl,e1,e2⟩ | ⟨hne,hi',e⟩
  ·have:=h.pc _ (List.getElem_mem hj)
   rw[hje]at this
   rw[e1];exact this
  ·rw[e];exact h.pc _ (List.getElem_mem hi')
end
set_option maxHeartbeats 16000000 in
theorem mstepF (w0 w:World) (x b r:Nat) (E:List Ent) (lost:Nat) (t:Nat→Thing) (n j:Nat) (en:Ent) (pl K N fl:Int) (odd:Bool) (a:Option Addr) (len cap:Nat) (bs:Nat→Nat) (p:Int) (y:Nat) (h:Wo w0 w x b r E lost t) (hn:E.length=n) (hE:0<n) (hj:plJ pl n=j) (he:E[j]?=some en) (hr:Row8 w a len cap bs) (hl:∀ z,a=some z→0<len→z.block<w0.heap.size) (hlen:len≤140737488351232) (hy:y<4294967296) (hK:1≤K∧K≤7) (hlost:lost<1000000) (hok:Ok16 E) :
  Calls Tryz.prog 10 #[.pointer (some ⟨x,0,none⟩),.agg #[.int .i64 pl,.int .i64 K,.int .i64 N,.int .i64 fl,.bool odd,.slice a len cap,.int .i64 p,.int .u32 (y:Nat)]] w fun e w'=>e=.returned (.bool true)∧Hid (∃ f E' lost' t',Wo w0 w' x b r E' lost' t'∧Fo en.L.P en.s K N fl odd len bs y f∧(∀ i,i<f.1→f.2 i<256)∧Rcv E lost f E' lost'):=by
 have hB:=h.box #[.int .i64 pl,.int .i64 K,.int .i64 N,.int .i64 fl,.bool odd,.slice a len cap,.int .i64 p,.int .u32 (y:Nat)]
 have S0:=hB.stp' he
 obtain⟨ga,ca,gm,cm,gr,cr,hx⟩:=hB.reads' hn he (putT_same _ _ _)
 have X0:=hx _ _ _ S0
 obtain⟨PP,q1,q2,q3,q4,q5⟩:=plJ_facts pl n hE (hn ▸ h.le)
 rw[hj]at q2 q4 q5
 have k0:=cell_of_row _ w.heap.size 0 _ _ _ X0.bx
 have k1:=cell_of_row _ w.heap.size 1 _ _ _ X0.bx
 have k4:=X0.c4
 have hjn:(j:Int) < (n:Int):=by have:=plJ_lt pl n hE;omega
 have hn0:¬ (n:Int)=0:=by omega
 have hk20:(K=20)=False:=by simp;omega
 have hss:en.s.ss<4294967296:=(hok en (List.mem_of_getElem? he)).1.ss
 have cF:∀ wx,Wo w0 wx x b r E lost (putT t 3 (bxT w.heap.size #[.int .i64 pl,.int .i64 K,.int .i64 N,.int .i64 fl,.bool odd,.slice a len cap,.int .i64 p,.int .u32 (y:Nat)]))→Calls Tryz.prog 13 #[.pointer (some ⟨en.L.e,0,none⟩),.agg #[.int .i64 K,.int .i64 N,.int .i64 fl,.bool odd,.slice a len cap,.int .i64 p,.int .u32 (y:Nat)]] wx fun e w'=>∃ (av:Option Addr) (cv:Nat) (f:Fm),e=.returned (.tuple #[.slice av f.1 cv,.bool true])∧Hid (Wo w0 w' x b r E lost (putT t 3 (bxT w.heap.size #[.int .i64 pl,.int .i64 K,.int .i64 N,.int .i64 fl,.bool odd,.slice a len cap,.int .i64 p,.int .u32 (y:Nat)]))∧Wo w0 w' x b r E lost (putT (putT t 3 (bxT w.heap.size #[.int .i64 pl,.int .i64 K,.int .i64 N,.int .i64 fl,.bool odd,.slice a len cap,.int .i64 p,.int .u32 (y:Nat)])) 4 (r8T av f.1 cv f.2))∧(∀ i,i<f.1→f.2 i<256)∧f.1≤140737488351232∧Fo en.L.P en.s K N fl odd len bs y f):=by
  intro wx hs
  obtain⟨V,hv,_⟩:=(hs.stp' he).ref
  refine (frame_op en.L.e en.L.r en.L.q en.L.n en.L.mx en.L.P V en.s K N fl odd a len cap bs p y wx hv (hr.both hl h.al.bel hs.al.bel) (fun z hz h0=>Nat.lt_of_lt_of_le (hl z hz h0) hs.al.bel.size) hss hy hlen hK).mono ?_
  rintro e w' ⟨v,rfl,h2⟩
  obtain⟨b2,f,F2,y2,l2,fo2⟩:=h2.out
  obtain⟨av,cv,rfl,rv⟩:=F2.row y2
  exact⟨av,cv,f,rfl,hs.below b2,hs.put4 b2 rv (fun z hz=>own_far F2 z hz),y2,l2,fo2⟩
 have HW:Hid (_):=And.intro hB (And.intro hx (And.intro he (And.intro hlost (And.intro hok (And.intro h.le hn)))))
 generalize hw1:w.alloc (.cells #[.int .i64 pl,.int .i64 K,.int .i64 N,.int .i64 fl,.bool odd,.slice a len cap,.int .i64 p,.int .u32 (y:Nat)] 34)=w1 at *
 clear S0 X0 hr hl hss he h hn hj hE hlen hy hlost hok hx
 go_enter Tryz.func10,Tryz.ntmps10
 go_wp2_with fail
 go_quiet (fail)
 have P1:Hid (_):=hB.below (below_drewNB' (Below.refl _ w1) nq)
 clear hB k0 k1 k4 q1 q2 q3 q4 q5 hw1
 generalize w1.drewN nq=w2 at *
 go_wp2_with fail
 have P2:Hid (_):=P1.out.below (Below.drew (Below.refl _ _))
 have HS:(w2.drew.cell? ⟨x,4,none⟩=some (.slice (some ⟨gr,0,none⟩) n cr)∧w2.drew.cell? ⟨gr,j,none⟩=some (.pointer (some ⟨en.L.e,0,none⟩))∧w2.drew.cell? ⟨w.heap.size,1,none⟩=some (.int .i64 K)∧w2.drew.cell? ⟨w.heap.size,2,none⟩=some (.int .i64 N)∧w2.drew.cell? ⟨w.heap.size,3,none⟩=some (.int .i64 fl)∧w2.drew.cell? ⟨w.heap.size,4,none⟩=some (.bool odd)∧w2.drew.cell? ⟨w.heap.size,5,none⟩=some (.slice a len cap)∧w2.drew.cell? ⟨w.heap.size,6,none⟩=some (.int .i64 p)∧w2.drew.cell? ⟨w.heap.size,7,none⟩=some (.int .u32 (y:Nat))):=by
  have X:=HW.out.2.1 _ _ _ (P2.out.stp' HW.out.2.2.1)
  exact⟨X.c4,X.r4,cell_of_row _ w.heap.size 1 _ _ _ X.bx,cell_of_row _ w.heap.size 2 _ _ _ X.bx,cell_of_row _ w.heap.size 3 _ _ _ X.bx,cell_of_row _ w.heap.size 4 _ _ _ X.bx,cell_of_row _ w.heap.size 5 _ _ _ X.bx,cell_of_row _ w.heap.size 6 _ _ _ X.bx,cell_of_row _ w.heap.size 7 _ _ _ X.bx⟩
 clear P1
 go_region_held3 (fun w'=>w'.cell? ⟨x,4,none⟩=some (.slice (some ⟨gr,0,none⟩) n cr)∧w'.cell? ⟨gr,j,none⟩=some (.pointer (some ⟨en.L.e,0,none⟩))∧w'.cell? ⟨w.heap.size,1,none⟩=some (.int .i64 K)∧w'.cell? ⟨w.heap.size,2,none⟩=some (.int .i64 N)∧w'.cell? ⟨w.heap.size,3,none⟩=some (.int .i64 fl)∧w'.cell? ⟨w.heap.size,4,none⟩=some (.bool odd)∧w'.cell? ⟨w.heap.size,5,none⟩=some (.slice a len cap)∧w'.cell? ⟨w.heap.size,6,none⟩=some (.int .i64 p)∧w'.cell? ⟨w.heap.size,7,none⟩=some (.int .u32 (y:Nat))) (assumption) (first
  | (go_at_call 13;refine (cF _ P2.out).mono ?_;rintro e w3 ⟨av,cv,f,rfl,h2⟩;have HT:(w3.cell? ⟨x,4,none⟩=some (.slice (some ⟨gr,0,none⟩) n cr)∧w3.cell? ⟨gr,j,none⟩=some (.pointer (some ⟨en.L.e,0,none⟩))∧w3.cell? ⟨w.heap.size,1,none⟩=some (.int .i64 K)∧w3.cell? ⟨w.heap.size,2,none⟩=some (.int .i64 N)∧w3.cell? ⟨w.heap.size,3,none⟩=some (.int .i64 fl)∧w3.cell? ⟨w.heap.size,4,none⟩=some (.bool odd)∧w3.cell? ⟨w.heap.size,5,none⟩=some (.slice a len cap)∧w3.cell? ⟨w.heap.size,6,none⟩=some (.int .i64 p)∧w3.cell? ⟨w.heap.size,7,none⟩=some (.int .u32 (y:Nat))):=(by have X:=HW.out.2.1 _ _ _ (h2.out.1.stp' HW.out.2.2.1);exact⟨X.c4,X.r4,cell_of_row _ w.heap.size 1 _ _ _ X.bx,cell_of_row _ w.heap.size 2 _ _ _ X.bx,cell_of_row _ w.heap.size 3 _ _ _ X.bx,cell_of_row _ w.heap.size 4 _ _ _ X.bx,cell_of_row _ w.heap.size 5 _ _ _ X.bx,cell_of_row _ w.heap.size 6 _ _ _ X.bx,cell_of_row _ w.heap.size 7 _ _ _ X.bx⟩);have P3:Hid (_):=h2.out.2;clear h2))
 all_goals
  clear cF HS HT P2
  obtain⟨i0,hi,hz0,hz1,hz2⟩:=info_parts info_u8
  have hbd:=build0D
  obtain⟨W3,y3,l3,fo3⟩:=P3.out
  obtain⟨Vm,em⟩:=W3.mx
  obtain⟨va,vm,vr,ew⟩:=W3.wd
  obtain⟨v1,v2,er⟩:=W3.rm
  have e4:(putT (putT t 3 (bxT w.heap.size #[.int .i64 pl,.int .i64 K,.int .i64 N,.int .i64 fl,.bool odd,.slice a len cap,.int .i64 p,.int .u32 (y:Nat)])) 4 (r8T av f.1 cv f.2)) 4=r8T av f.1 cv f.2:=putT_same _ _ _
  generalize (putT (putT t 3 (bxT w.heap.size #[.int .i64 pl,.int .i64 K,.int .i64 N,.int .i64 fl,.bool odd,.slice a len cap,.int .i64 p,.int .u32 (y:Nat)])) 4 (r8T av f.1 cv f.2))=t3 at *
  have HC:∀ wx,Below w3.heap.size w3 wx→wx.cell? ⟨x,0,none⟩=some (.pointer (some ⟨b,0,none⟩)):=fun wx bx=>cell_of_row wx x 0 _ _ _ ((W3.al.below bx).get ew).blk
  have hRw:∀ wx,Below w3.heap.size w3 wx→Row8 wx av f.1 cv f.2:=fun wx bx=>(W3.al.below bx).get e4
  have HS3:w3.drew.cell? ⟨x,0,none⟩=some (.pointer (some ⟨b,0,none⟩)):=HC _ (Below.drew (Below.refl _ _))
  by_cases hpf:pfE (prts E) f.2 f.1=0
  ·obtain⟨jj,ee,hee,hcc,hDD⟩:=pfE_zero hpf
   obtain⟨hv,hL,ht,hnn⟩:=HW.out.2.2.2.2.1 ee (List.mem_of_getElem? hee)
   have hu:=(W3.al.mx em).uniq
   obtain⟨hjj,hje⟩:=List.getElem?_eq_some_iff.1 hee
   obtain⟨Ud,ed⟩:=W3.dv jj hjj
   rw[hje]at ed
   have cR:∀ wx,Below w3.heap.size w3 wx→∀ a5 c5,Row8 wx a5 f.1 c5 f.2→(∀ z,a5=some z→w3.heap.size≤z.block)→Calls Tryz.prog 17 #[.pointer (some ⟨b,0,none⟩),.slice a5 f.1 c5] wx fun e w'=>∃ ax cx,e=.returned (.tuple #[.int .u32 (ee.L.P.c:Nat),.slice ax (drecv ee.L.P ee.L.mx ee.L.n ee.s f.1 f.2).f.1 cx,.int .i64 (drecv ee.L.P ee.L.mx ee.L.n ee.s f.1 f.2).e])∧Hid (∃ t' U',Al w0 w' t'∧t' 0=mxT b (bump (prts E) ee.L.P.c) lost Vm∧t' (10+2*jj)=dvT (ee.L.dr (drecv ee.L.P ee.L.mx ee.L.n ee.s f.1 f.2).s) U'∧t' 5=r8T ax (drecv ee.L.P ee.L.mx ee.L.n ee.s f.1 f.2).f.1 cx (drecv ee.L.P ee.L.mx ee.L.n ee.s f.1 f.2).f.2∧∀ i,i≠0→i≠10+2*jj→i≠5→t' i=t3 i):=fun wx bx a5 c5 r5 hfar=>recvP_found (W3.al.below bx) em hee ed r5 (fun z hz hm=>by
    have h1:=hfar z hz
    have h2:=(W3.al.lt 0 z.block (by rw[em];exact hm)).2
    omega) hDD hcc hv hL ht hnn
   have hD2:∀ t6 w6,Al w0 w6 t6→(∀ i,i≠0→i≠10+2*jj→i≠5→t6 i=t3 i)→Calls Tryz.prog 40 #[.pointer (some ⟨r,0,none⟩),.slice av f.1 cv] w6 fun e w'=>∃ ay cy,e=.returned (.tuple #[.int .u32 (ee.L.P.c:Nat),.slice ay (drecv ee.L.P ee.L.mx ee.L.n ee.s f.1 f.2).f.1 cy,.int .i64 (drecv ee.L.P ee.L.mx ee.L.n ee.s f.1 f.2).e])∧Hid (∃ t' U',Al w0 w' t'∧t' 1=rmT r v1 v2 (E.map (·.L.e)) ((E.map (·.n)).set jj (ee.n+1)) lost∧t' (11+2*jj)=rwT (ee.L.rr (drecv ee.L.P ee.L.mx ee.L.n ee.s f.1 f.2).s) U'∧Row8 w' ay (drecv ee.L.P ee.L.mx ee.L.n ee.s f.1 f.2).f.1 cy (drecv ee.L.P ee.L.mx ee.L.n ee.s f.1 f.2).f.2∧∀ i,i≠1→i≠11+2*jj→t' i=t6 i):=by
    intro t6 w6 A6 o6
    have f1:=(o6 1 (by omega) (by omega) (by omega)).trans er
    have f4:=(o6 4 (by omega) (by omega) (by omega)).trans e4
    exact recvR_found A6 f1 (fun i hi=>by rw[o6 _ (by omega) (by omega) (by omega)];exact W3.rw i hi) hu hee (A6.get f4) (fun z hz hm=>A6.apart (i:=4) (j:=1) (by omega) f4 f1 z.block (by simp[r8T,hz]) hm) hDD hcc hv hL ht hnn HW.out.2.2.2.2.2.1
   have H3:Hid (_):=And.intro W3 (And.intro y3 (And.intro fo3 (And.intro ew (And.intro hu (And.intro hee (And.intro hcc hDD))))))
   have HD2:Hid (_):=hD2
   generalize hRR:drecv ee.L.P ee.L.mx ee.L.n ee.s f.1 f.2=R at *
   have HRR:Hid (_):=hRR
   clear hRR W3 fo3 em ew er e4 ed hu hD2 hv hL ht hnn hje hcc hDD
   go_wp2_with fail
   go_region_held3 (fun w'=>w'.cell? ⟨x,0,none⟩=some (.pointer (some ⟨b,0,none⟩))) (first | with_reducible assumption | exact HC _ (by repeat (first | with_reducible assumption | with_reducible refine below_drewNB' ?_ _ | with_reducible refine Below.drew ?_ | with_reducible refine belowA ?_ _ | with_reducible exact Below.refl _ _))) (first
    | (refine step_append8L rfl (.tmp 96) (.tmp 97) rfl w3.heap.size _ rfl (by first | exact own0L _ _ (Nat.le_refl _) | exact own0Ld _ _ (Nat.le_refl _)) av f.1 cv f.2 rfl (hRw _ (by repeat (first | with_reducible assumption | with_reducible refine below_drewNB' ?_ _ | with_reducible refine Below.drew ?_ | with_reducible refine belowA ?_ _ | with_reducible exact Below.refl _ _))) l3 w3 (by repeat (first | with_reducible assumption | with_reducible refine below_drewNB' ?_ _ | with_reducible refine Below.drew ?_ | with_reducible refine belowA ?_ _ | with_reducible exact Below.refl _ _)) (Nat.le_refl _) ?_;intro a5 c5 w5 H5 b5;have cC:=cR w5 b5 a5 c5 (own_slice8 H5.out y3) (fun z hz=>(own_far H5.out z hz).1))
    | (go_at_call 17;refine cC.mono ?_;rintro e w6 ⟨ax,cx,rfl,h6⟩;have HT:w6.cell? ⟨x,0,none⟩=some (.pointer (some ⟨b,0,none⟩)):=(by obtain⟨t6,U6,A6,_,_,_,o6⟩:=h6.out;exact cell_of_row w6 x 0 _ _ _ (A6.get ((o6 2 (by omega) (by omega) (by omega)).trans H3.out.2.2.2.1)).blk)))
   all_goals
    obtain⟨t6,U6,A6,z6,d6,r6,o6⟩:=h6.out
    have k6:w6.cell? ⟨x,1,none⟩=some (.pointer (some ⟨r,0,none⟩)):=cell_of_row w6 x 1 _ _ _ (A6.get ((o6 2 (by omega) (by omega) (by omega)).trans H3.out.2.2.2.1)).blk
    have cD:=HD2.out t6 w6 A6 o6
    have H6:Hid (_):=And.intro z6 (And.intro d6 (And.intro r6 o6))
    clear A6 z6 d6 r6 o6 cC cR HC hRw h6 HT HS3 HD2
    go_wp2_with fail
    refine cD.mono ?_
    rintro e w7 ⟨ay,cy,rfl,h7⟩
    obtain⟨t7,U7,A7,z7,w7r,ry,o7⟩:=h7.out
    have rx:Row8 w7 ax R.f.1 cx R.f.2:=A7.get ((o7 5 (by omega) (by omega)).trans H6.out.2.2.1)
    have q1:=conv_any ax R.f.1 cx R.f.2 w7 rx
    have q2:=conv_any ay R.f.1 cy R.f.2 w7 ry
    obtain⟨X,hX⟩:∃ X,BA R.f.2 R.f.1=X:=⟨_,rfl⟩
    rw[hX]at q1 q2
    have H7:Hid (_):=And.intro A7 (And.intro z7 (And.intro w7r o7))
    clear hX cD h7 A7 z7 w7r ry o7 rx
    go_wp2_with fail
    go_ret
    obtain⟨A7,z7,w7r,o7⟩:=H7.out
    obtain⟨W3,y3',fo3,ew,hu,hee',hcc,hDD⟩:=H3.out
    exact⟨by simp,f,_,lost,t7,W3.foundB hu hee' A7 H6.out.1 H6.out.2.1 H6.out.2.2.2 z7 w7r o7,fo3,y3',.inr ⟨jj,ee,hee',hcc,hDD,by rw[HRR.out],rfl⟩⟩
  ·-- for nobody
   have cR:∀ wx,Below w3.heap.size w3 wx→∀ a5 c5,Row8 wx a5 f.1 c5 f.2→Calls Tryz.prog 17 #[.pointer (some ⟨b,0,none⟩),.slice a5 f.1 c5] wx fun e w'=>e=.returned (.tuple #[.int .u32 0,.slice none 0 0,.int .i64 (pfE (prts E) f.2 f.1)])∧Hid (∃ t',Al w0 w' t'∧t' 0=mxT b (prts E) (lost+1) Vm∧∀ i,i≠0→t' i=t3 i):=fun wx bx a5 c5 r5=>recvP_lost (W3.al.below bx) em r5 hpf HW.out.2.2.2.1
   have H3:Hid (_):=And.intro W3 (And.intro y3 (And.intro fo3 (And.intro ew (And.intro er e4))))
   have HPF:Hid (_):=hpf
   clear W3 fo3 em ew er e4
   generalize hEE:pfE (prts E) f.2 f.1=EE at *
   have HEE:Hid (_):=hEE
   clear hEE
   go_wp2_with fail
   go_region_held3 (fun w'=>w'.cell? ⟨x,0,none⟩=some (.pointer (some ⟨b,0,none⟩))) (first | with_reducible assumption | exact HC _ (by repeat (first | with_reducible assumption | with_reducible refine below_drewNB' ?_ _ | with_reducible refine Below.drew ?_ | with_reducible refine belowA ?_ _ | with_reducible exact Below.refl _ _))) (first
    | (refine step_append8L rfl (.tmp 96) (.tmp 97) rfl w3.heap.size _ rfl (by first | exact own0L _ _ (Nat.le_refl _) | exact own0Ld _ _ (Nat.le_refl _)) av f.1 cv f.2 rfl (hRw _ (by repeat (first | with_reducible assumption | with_reducible refine below_drewNB' ?_ _ | with_reducible refine Below.drew ?_ | with_reducible refine belowA ?_ _ | with_reducible exact Below.refl _ _))) l3 w3 (by repeat (first | with_reducible assumption | with_reducible refine below_drewNB' ?_ _ | with_reducible refine Below.drew ?_ | with_reducible refine belowA ?_ _ | with_reducible exact Below.refl _ _)) (Nat.le_refl _) ?_;intro a5 c5 w5 H5 b5;have cC:=cR w5 b5 a5 c5 (own_slice8 H5.out y3))
    | (go_at_call 17;refine cC.mono ?_;rintro e w6 ⟨rfl,h6⟩;have HT:w6.cell? ⟨x,0,none⟩=some (.pointer (some ⟨b,0,none⟩)):=(by obtain⟨t6,A6,_,o6⟩:=h6.out;exact cell_of_row w6 x 0 _ _ _ (A6.get ((o6 2 (by omega)).trans H3.out.2.2.2.1)).blk)))
   all_goals
    obtain⟨t6,A6,z6,o6⟩:=h6.out
    obtain⟨W3,y3',fo3,ew,er,e4⟩:=H3.out
    have k6:w6.cell? ⟨x,1,none⟩=some (.pointer (some ⟨r,0,none⟩)):=cell_of_row w6 x 1 _ _ _ (A6.get ((o6 2 (by omega)).trans ew)).blk
    have cD:=recvR_lost (lost:=lost) A6 ((o6 1 (by omega)).trans er) (fun i hi=>by rw[o6 _ (by omega)];exact W3.rw i hi) (A6.get ((o6 4 (by omega)).trans e4)) (by rw[HEE.out];exact HPF.out) HW.out.2.2.2.1 HW.out.2.2.2.2.2.1
    rw[HEE.out]at cD
    have H6:Hid (_):=And.intro z6 o6
    clear A6 z6 o6 W3 y3' fo3 ew er e4 cC cR HC hRw h6 HT HS3
    go_wp2_with fail
    refine cD.mono ?_
    rintro e w7 ⟨rfl,h7⟩
    have q1:=conv_any none 0 0 (fun _=>0) w7 (row_nilX _ _)
    obtain⟨X,hX⟩:∃ X,BA (fun _=>0) 0=X:=⟨_,rfl⟩
    rw[hX]at q1
    clear hX cD
    go_wp2_with fail
    go_ret
    obtain⟨t7,A7,z7,o7⟩:=h7.out
    exact⟨by simp,f,E,lost+1,t7,H3.out.1.lostB A7 H6.out.1 H6.out.2 z7 o7,H3.out.2.2.1,H3.out.2.1,.inl ⟨by rw[HEE.out];exact HPF.out,rfl,rfl⟩⟩
end Go.Proofs.YtffehehghpafdaaGreat
