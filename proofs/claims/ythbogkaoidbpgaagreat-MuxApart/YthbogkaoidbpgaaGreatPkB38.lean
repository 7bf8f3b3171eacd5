/- Part 39 of the texts on which the proofs of layer 13 rest: contracts of Go functions. -/
import Derived.Test.YthbogkaoidbpgaaGreatPkB14
import Derived.Test.YthbogkaoidbpgaaGreatPkB15
import Derived.Test.YthbogkaoidbpgaaGreatPkB34
import Derived.Test.YthbogkaoidbpgaaGreatPkB37
namespace Go.Proofs.YthbogkaoidbpgaaGreat
set_option maxRecDepth 100000
open Go.RowKit Go.Maps Go.Sort Go.Shelf
theorem BRow.belowA {k:IntKind} {w w':World} {a:Option Addr} {len cap:Nat} {zs:List Int} (h:BRow k w a len cap zs) (hb:Below w.heap.size w w'):BRow k w' a len cap zs:=by
 rcases h with h | ⟨x,h1,h2,h3,h4,h5,h6⟩
 ·exact .inl h
 ·exact .inr ⟨x,h1,h2,h3,h4,fun i hi=>(World.cell?_of_block (hb.block _ (World.block_lt_of_cell? w _ (h5 i hi)))).trans (h5 i hi),h6⟩
theorem step_callA {P:Program} {ops:Array Oper} {o:Oper} {a:Act} {w:World} {K:Act→World→Prop} {Q:Exit→Act→World→Prop} {E:Prop} {R:Value→World→Prop}
  (f:FuncId) (ts:Array Operand) (ty:Array TypeId) (_:o.op=.call { callee:=.value (.func f),args:=ts,argTypes:=ty }) (hw:Region.wanted o (yielded ops a.tmps)=true) (args:Array Value) (hrun:(execOp a.eval o).run P w=.ok (.enter f args) w) (hc:Calls P f args w fun e w'=>∃ v,e=.returned v∧R v w') (hK:∀ v w',R v w'→K (a.put o.dst v) w') :
  if Region.wanted o (yielded ops a.tmps)=true then Oper.wp P o a w K Q else E:=by
 rw[if_pos hw]
 unfold Oper.wp
 rw[hrun]
 refine hc.mono ?_
 rintro e w'' ⟨v,rfl,hr⟩
 exact hK _ _ hr
theorem Bd.startA {E:List Ent} (h:∀ e,e ∈ E→e.n=0∧e.s=dnew M0):Bd 0 E 0:=⟨Nat.le_refl _,fun e he=>by
 obtain⟨h1,h2⟩:=h e he
 rw[h1,h2]
 exact⟨Iv.new_ M0,by decide,by decide,by omega⟩⟩
set_option maxHeartbeats 16000000 in
theorem mapart_core (a0:Option Addr) (len0 cap0:Nat) (zs:List Int) (a1:Option Addr) (len1 cap1:Nat) (w:World) (hr:BRow .u32 w a0 len0 cap0 zs) (hO:OpRow w a1 len1) :
  Calls Tryz.prog 3 #[.slice a0 len0 cap0,.slice a1 len1 cap1] w fun e w'=>e=.returned (.bool true)∧Below w.heap.size w w':=by
 have hA:=awake16 w
 have HR:Hid (_):=hr
 obtain⟨hlen1,h1⟩:=hO
 have HC:Hid (_):=h1
 clear hr h1
 obtain⟨i0,hI,hz0,hz1,hz2⟩:=info_parts info_pA
 go_enter Tryz.func3,Tryz.ntmps3
 go_wp2_with (go_at_call 5;refine hA.mono ?_;rintro e w1 ⟨rfl,b1⟩)
 have hBu:=build_any a0 len0 cap0 zs w1 (BRow.belowA HR.out b1)
 refine hBu.mono ?_
 rintro e w2 ⟨x,rfl,h2⟩
 obtain⟨b,r,E,t,hW,hall⟩:=h2.out
 obtain⟨va,vm,vr,ew⟩:=hW.wd
 obtain⟨ar,cr,n,e4⟩:=own_sl (hW.al.get ew).rr
 have hn:n=E.length:=by
  rcases (hW.al.get ew).rr.2 with ⟨e1,e2⟩ | ⟨g,c,cur,e1,_⟩
  ·rw[e1]at e4;rw[List.length_map]at e2;simp at e4;omega
  ·rw[e1]at e4;simp at e4;omega
 have hx4:∀ wx,Wl w1 wx t E (.slice none 0 0) 0→True:=fun _ _=>trivial
 have x4:w2.cell? ⟨x,4,none⟩=some (.slice ar n cr):=by rw[← e4];exact cell_of_row w2 x 4 _ _ _ (hW.al.get ew).blk
 have H1:Hid (Below w.heap.size w w1):=b1
 have HW:Hid (_):=And.intro hW (And.intro hall (And.intro ew (And.intro e4 hn)))
 have hB2:=hW.al.bel
 have H2:Hid (_):=hB2
 have L0:Hid (Wl w1 w2 t E (.slice none 0 0) 0):=Wl.start hW.al
 have hn8:n≤8:=by have:=hW.le;omega
 clear hA b1 hBu h2 hW hall ew e4 hx4 hB2 hn
 by_cases hn0:n=0
 ·have hn0':((n:Int)=0)=True:=by simp;omega
  go_wp2_with fail
  go_ret
  exact⟨rfl,H1.out.trans (H2.out.mono H1.out.size)⟩
 have hn0':((n:Int)=0)=False:=by simp;omega
 have hn0b:((n:Int) == 0)=false:=by simp;omega
 clear hn0'
 go_wp2_with fail
 go_loopw [7,8,9,10,11] (fun v c _ _ _ wr=>∃ (i m:Nat) (ad:Option Addr),i≤n∧c=.int .i64 ((i:Nat):Int)∧v=.slice ad i m∧Hid (Wl w1 wr t E (.slice ad i m) i)) (fun _ c _ _ _ _=>n-natU c)
 case atStart=>exact⟨0,0,none,by omega,rfl,rfl,L0⟩
 case round=>
  obtain⟨i,m,ad,hi,rfl,rfl,HI⟩:=hrel
  clear L0 x4
  obtain⟨hWo,hall,ew,e4,hn⟩:=HW.out
  have hw:WD wr x b r va vm vr _ _ _:=HI.out.get (by omega) (by omega) (by omega) ew
  have x4:wr.cell? ⟨x,4,none⟩=some (.slice ar n cr):=by rw[← e4];exact cell_of_row wr x 4 _ _ _ hw.blk
  by_cases hlt:i<n
  ·have hil:i<E.length:=by omega
   have he:E[i]?=some (E[i]):=List.getElem?_eq_getElem hil
   generalize E[i]=en at he
   obtain⟨g,cg,eg,kg⟩:=row_at hw.rr (j:=i) (d:=en.L.e) (by simp[he])
   have ea:ar=some ⟨g,0,none⟩:=by rw[e4]at eg;simp at eg;exact eg.1
   subst ea
   obtain⟨Ur,er⟩:=hWo.rw i hil
   have hcode:wr.cell? ⟨en.L.e,0,none⟩=some (.int .u32 (en.L.P.c:Nat)):=by
    have h8:=hWo.le
    have:=(HI.out.get (k:=11+2*i) (by omega) (by omega) (by omega) er).code
    rw[List.getElem?_eq_getElem hil]at he
    cases he
    exact this
   have hmem:=List.mem_of_getElem? he
   obtain⟨pn,pm,p0,pl,pp⟩:=hWo.pc en hmem
   have hM:=made16 en.L.P.c p0 pl wr
   have hs0:=(hall en hmem).2
   have HE:Hid (_):=And.intro he (And.intro hs0 (And.intro pn (And.intro pm pp)))
   have hlt':(i:Int) < (n:Int):=by omega
   clear hWo hall ew e4 hn hw eg er he hmem pn pm p0 pl pp hs0
   go_wp2_with fail
   refine hM.mono ?_
   rintro e w4 ⟨L,rfl,h4⟩
   obtain⟨ls,hls,hrow,hnext⟩:=HI.out.row
   obtain⟨ln,lx,lp,T⟩:=h4.out
   have bT:Below wr.heap.size wr w4:=by obtain⟨_,_,T⟩:=T;exact T.bel
   have hrow':(w4.alloc (.cells #[.pointer (some ⟨L.d,0,none⟩)] 35)).ownsRow 0 35 1 (.slice ad i m) i (ls.map ptV):=by
    have:=(own_below hrow bT).alloc (.cells #[.pointer (some ⟨L.d,0,none⟩)] 35)
    rw[hls]at this
    exact this
   have HX:Hid (_):=And.intro hnext (And.intro T (And.intro ln (And.intro lx (And.intro lp hls))))
   clear hM h4 hrow hnext T ln lx lp bT kg hcode
   generalize hdd:L.d=dd at *
   go_wp2_with (at_builtin;refine wpList_append_own_at _ rfl (.tmp 63) (.tmp 65) 30 rfl 0 35 i0 (.pointer none) 1 8 Tryz.underlying30 hI hz0 hz1 hz2 rfl (by decide) (.slice ad i m) i (ls.map ptV) rfl hrow' ⟨w4.heap.size,0,none⟩ 1 1 [ptV dd] rfl rfl (one_cellG (heap_alloc_new w4 _)) (by intro u hu;simp at hu;subst hu;rfl) (by unfold maxLen;omega) (by omega) (Nat.zero_le _) ?_)
   intro v5 w5 o5 g5 _ b5
   obtain⟨x5,y5,rfl,_,_⟩:=own_some1M o5
   have HL:Hid (Wl w1 w5 t E (.slice (some ⟨x5,0,none⟩) (i+1) y5) (i+1)):=by
    obtain⟨hnext,T,ln,lx,lp,hls⟩:=HX.out
    obtain⟨he,hs0,pn,pm,pp⟩:=HE.out
    refine hnext _ _ _ _ L (dnew M0) en T he ⟨rfl,?_,?_,?_,?_⟩ (by rw[hls,hdd];exact o5) g5 b5
    ·show L.P=en.L.P
     rw[lp,← pp]
    ·show L.n=en.L.n
     rw[ln,pn]
    ·show L.mx=en.L.mx
     rw[lx,pm]
    ·exact hs0.symm
   clear HX HE o5 g5 b5 hrow'
   go_wp2_with fail
   go_roundw
   case rel=>exact⟨i+1,y5,some ⟨x5,0,none⟩,by omega,by go_num,rfl,HL⟩
   case measure=>simp[natU] <;> omega
  ·obtain rfl:i=n:=by omega
   have hii:¬ (i:Int) < (i:Int):=by omega
   have HM:Hid (∃ E lost ls t,Wa w1 wr x b E lost (.slice ad i m) ls t∧E.length=i∧Bd 0 E lost):=by
    subst hn
    obtain⟨ls,t',hA⟩:=HI.out.done hWo
    exact⟨E,0,ls,t',hA,rfl,Bd.startA hall⟩
   clear HI HW hWo hall ew hw e4 hn
   go_wp2_with fail
   go_loopw [12,13,14,15,16,17,18,19,20,21,22] (fun c _ _ _ _ _ _ _ _ _ _ wr=>∃ k:Nat,k≤len1∧k≤300∧c=.int .i64 ((k:Nat):Int)∧Hid (∃ E lost ls t,Wa w1 wr x b E lost (.slice ad i m) ls t∧E.length=i∧Bd k E lost)) (fun c _ _ _ _ _ _ _ _ _ _ _=>300-natU c)
   case atStart=>exact⟨0,by omega,by omega,rfl,HM⟩
   case round=>
    obtain⟨k,hk,hk3,rfl,HK⟩:=hrel
    clear HM x4
    by_cases hlt:k<len1∧k<300
    ·obtain⟨hlt,hlt3⟩:=hlt
     have hlt':(k:Int) < (len1:Int):=by omega
     have hlt3':(k:Int)<300:=by omega
     obtain⟨q,off,rfl,hq,hcs⟩:=HC.out (by omega)
     obtain⟨pl,K,N,fl,o,xa,l,c,bs,p,z,k0,k1,k2,k3,k4,k5,k6,k7,R,hl,hN,hz,hlow⟩:=hcs k hlt
     obtain⟨E2,lost,ls,t2,hA,hEi,hBd⟩:=HK.out
     have hb1:=H1.out
     have hbr:Below w.heap.size w wr:=hb1.trans (hA.al.bel.mono hb1.size)
     have u:=fun (j:Nat) (v:Value) (h:w.cell? ⟨q,j,none⟩=some v)=>(World.cell?_of_block (a:=⟨q,j,none⟩) (hbr.block q hq)).trans h
     have c0:=u _ _ k0
     have c1:=u _ _ k1
     have c2:=u _ _ k2
     have c3:=u _ _ k3
     have c4:=u _ _ k4
     have c5:=u _ _ k5
     have c6:=u _ _ k6
     have c7:=u _ _ k7
     clear u k0 k1 k2 k3 k4 k5 k6 k7 hcs HK
     have hpos:0<i:=by omega
     have hB:=hA.box #[.int .i64 pl,.int .i64 K,.int .i64 N,.int .i64 fl,.bool o,.slice xa l c,.int .i64 p,.int .u32 (z:Nat)]
     obtain⟨ga,ca,gr,cr9,gl,cl,elv,hx⟩:=hB.reads hEi hpos (putT_same _ _ _)
     obtain⟨rfl,rfl⟩:ad=some ⟨gl,0,none⟩∧m=cl:=by simpa using elv
     obtain⟨PP,q1,q2,q3,q4,q5⟩:=plJ_facts pl i hpos hn8
     have hjl:=plJ_lt pl i hpos
     generalize plJ pl i=j at q2 q4 q5 hjl
     have hjE:j<E2.length:=by omega
     obtain⟨en,he⟩:∃ en,E2[j]?=some en:=⟨_,List.getElem?_eq_getElem hjE⟩
     obtain⟨dl,hd⟩:∃ d,ls[j]?=some d:=⟨_,List.getElem?_eq_getElem (by rw[hA.ll];exact hjE)⟩
     have hss:en.s.ss<4294967296:=(hBd.2 en (List.mem_of_getElem? he)).1.ss
     have cF:∀ wx T,Wa w1 wx x b E2 lost (.slice (some ⟨gl,0,none⟩) i m) ls T→Calls Tryz.prog 8 #[.pointer (some ⟨en.L.e,0,none⟩),.agg #[.int .i64 K,.int .i64 N,.int .i64 fl,.bool o,.slice xa l c,.int .i64 p,.int .u32 (z:Nat)]] wx fun e w'=>∃ av cv f is,e=.returned (.tuple #[.slice av f.1 cv,.bool is])∧Hid (Fra wx w' en.L.P K av cv f is):=by
      intro wx T hs
      obtain⟨V,hv⟩:=hs.rw j hjE
      rw[(List.getElem?_eq_some_iff.1 he).2]at hv
      have hv:=hs.al.rw hv
      obtain⟨_,yy⟩:=id hv
      exact frameA _ _ _ _ _ en.L.P V en.s K N fl o xa l c bs p z wx hv (R.below (hb1.trans (hs.al.bel.mono hb1.size))) (fun y hy h0=>Nat.lt_of_lt_of_le (hlow y hy h0) (Nat.le_trans hb1.size hs.al.bel.size)) hss hz hl yy.pok
     have HW:Hid (_):=And.intro hB (And.intro hx (And.intro hEi (And.intro he (And.intro hd (And.intro hBd (And.intro hN hpos))))))
     have HS:(wr.alloc (.cells #[.int .i64 pl,.int .i64 K,.int .i64 N,.int .i64 fl,.bool o,.slice xa l c,.int .i64 p,.int .u32 (z:Nat)] 58)).cell? ⟨x,4,none⟩=some (.slice (some ⟨gr,0,none⟩) i cr9)∧(wr.alloc (.cells #[.int .i64 pl,.int .i64 K,.int .i64 N,.int .i64 fl,.bool o,.slice xa l c,.int .i64 p,.int .u32 (z:Nat)] 58)).cell? ⟨gr,j,none⟩=some (.pointer (some ⟨en.L.e,0,none⟩))∧(wr.alloc (.cells #[.int .i64 pl,.int .i64 K,.int .i64 N,.int .i64 fl,.bool o,.slice xa l c,.int .i64 p,.int .u32 (z:Nat)] 58)).cell? ⟨wr.heap.size,1,none⟩=some (.int .i64 K)∧(wr.alloc (.cells #[.int .i64 pl,.int .i64 K,.int .i64 N,.int .i64 fl,.bool o,.slice xa l c,.int .i64 p,.int .u32 (z:Nat)] 58)).cell? ⟨wr.heap.size,2,none⟩=some (.int .i64 N)∧(wr.alloc (.cells #[.int .i64 pl,.int .i64 K,.int .i64 N,.int .i64 fl,.bool o,.slice xa l c,.int .i64 p,.int .u32 (z:Nat)] 58)).cell? ⟨wr.heap.size,3,none⟩=some (.int .i64 fl)∧(wr.alloc (.cells #[.int .i64 pl,.int .i64 K,.int .i64 N,.int .i64 fl,.bool o,.slice xa l c,.int .i64 p,.int .u32 (z:Nat)] 58)).cell? ⟨wr.heap.size,4,none⟩=some (.bool o)∧(wr.alloc (.cells #[.int .i64 pl,.int .i64 K,.int .i64 N,.int .i64 fl,.bool o,.slice xa l c,.int .i64 p,.int .u32 (z:Nat)] 58)).cell? ⟨wr.heap.size,5,none⟩=some (.slice xa l c)∧(wr.alloc (.cells #[.int .i64 pl,.int .i64 K,.int .i64 N,.int .i64 fl,.bool o,.slice xa l c,.int .i64 p,.int .u32 (z:Nat)] 58)).cell? ⟨wr.heap.size,6,none⟩=some (.int .i64 p)∧(wr.alloc (.cells #[.int .i64 pl,.int .i64 K,.int .i64 N,.int .i64 fl,.bool o,.slice xa l c,.int .i64 p,.int .u32 (z:Nat)] 58)).cell? ⟨wr.heap.size,7,none⟩=some (.int .u32 (z:Nat)):=by
      have X:=hx _ _ hB.al rfl rfl rfl
      exact⟨X.c4,(X.rs j en dl HW.out.2.2.2.1 HW.out.2.2.2.2.1).2.1,cell_of_row _ wr.heap.size 1 _ _ _ X.bx,cell_of_row _ wr.heap.size 2 _ _ _ X.bx,cell_of_row _ wr.heap.size 3 _ _ _ X.bx,cell_of_row _ wr.heap.size 4 _ _ _ X.bx,cell_of_row _ wr.heap.size 5 _ _ _ X.bx,cell_of_row _ wr.heap.size 6 _ _ _ X.bx,cell_of_row _ wr.heap.size 7 _ _ _ X.bx⟩
     have kb0:=cell_of_row _ wr.heap.size 0 _ _ _ (hx _ _ hB.al rfl rfl rfl).bx
     have P1:Hid (_):=hB
     clear hA hEi hBd R hl hN hz hlow hb1 hbr hB hx he hd hss hjE elv
     generalize hwb:wr.alloc (.cells #[.int .i64 pl,.int .i64 K,.int .i64 N,.int .i64 fl,.bool o,.slice xa l c,.int .i64 p,.int .u32 (z:Nat)] 58)=wb at *
     have P2:Hid (_):=P1.out.below (w':=wb.drew) (Below.drew (Below.refl _ _))
     clear P1
     have hjn:(j:Int) < (i:Int):=by omega
     have hi0:¬ (i:Int)=0:=by omega
     go_wp2_with fail
     clear c0 c1 c2 c3 c4 c5 c6 c7 q1 q2 q3 q4 q5 kb0
     go_region_held3 (fun w'=>w'.cell? ⟨x,4,none⟩=some (.slice (some ⟨gr,0,none⟩) i cr9)∧w'.cell? ⟨gr,j,none⟩=some (.pointer (some ⟨en.L.e,0,none⟩))∧w'.cell? ⟨wr.heap.size,1,none⟩=some (.int .i64 K)∧w'.cell? ⟨wr.heap.size,2,none⟩=some (.int .i64 N)∧w'.cell? ⟨wr.heap.size,3,none⟩=some (.int .i64 fl)∧w'.cell? ⟨wr.heap.size,4,none⟩=some (.bool o)∧w'.cell? ⟨wr.heap.size,5,none⟩=some (.slice xa l c)∧w'.cell? ⟨wr.heap.size,6,none⟩=some (.int .i64 p)∧w'.cell? ⟨wr.heap.size,7,none⟩=some (.int .u32 (z:Nat))) (assumption) (first
      | (go_at_call 8;refine (cF _ _ P2.out).mono ?_;rintro e w3 ⟨av,cv,f,is,rfl,h2⟩;have HT:w3.cell? ⟨x,4,none⟩=some (.slice (some ⟨gr,0,none⟩) i cr9)∧w3.cell? ⟨gr,j,none⟩=some (.pointer (some ⟨en.L.e,0,none⟩))∧w3.cell? ⟨wr.heap.size,1,none⟩=some (.int .i64 K)∧w3.cell? ⟨wr.heap.size,2,none⟩=some (.int .i64 N)∧w3.cell? ⟨wr.heap.size,3,none⟩=some (.int .i64 fl)∧w3.cell? ⟨wr.heap.size,4,none⟩=some (.bool o)∧w3.cell? ⟨wr.heap.size,5,none⟩=some (.slice xa l c)∧w3.cell? ⟨wr.heap.size,6,none⟩=some (.int .i64 p)∧w3.cell? ⟨wr.heap.size,7,none⟩=some (.int .u32 (z:Nat)):=(by have X:=HW.out.2.1 _ _ (P2.out.al.below h2.out.1) rfl rfl rfl;exact⟨X.c4,(X.rs j en dl HW.out.2.2.2.1 HW.out.2.2.2.2.1).2.1,cell_of_row _ wr.heap.size 1 _ _ _ X.bx,cell_of_row _ wr.heap.size 2 _ _ _ X.bx,cell_of_row _ wr.heap.size 3 _ _ _ X.bx,cell_of_row _ wr.heap.size 4 _ _ _ X.bx,cell_of_row _ wr.heap.size 5 _ _ _ X.bx,cell_of_row _ wr.heap.size 6 _ _ _ X.bx,cell_of_row _ wr.heap.size 7 _ _ _ X.bx⟩)))
     all_goals
      obtain⟨b3,r3,far3,y3,l3,his,hc3⟩:=h2.out
      have W3:=P2.out.put4 b3 r3 far3
      have e3:(putT (putT t2 3 (bxT wr.heap.size #[.int .i64 pl,.int .i64 K,.int .i64 N,.int .i64 fl,.bool o,.slice xa l c,.int .i64 p,.int .u32 (z:Nat)])) 4 (r8T av f.1 cv f.2)) 3=bxT wr.heap.size #[.int .i64 pl,.int .i64 K,.int .i64 N,.int .i64 fl,.bool o,.slice xa l c,.int .i64 p,.int .u32 (z:Nat)]:=by rw[putT_ne _ _ (by omega),putT_same]
      have e4:(putT (putT t2 3 (bxT wr.heap.size #[.int .i64 pl,.int .i64 K,.int .i64 N,.int .i64 fl,.bool o,.slice xa l c,.int .i64 p,.int .u32 (z:Nat)])) 4 (r8T av f.1 cv f.2)) 4=r8T av f.1 cv f.2:=putT_same _ _ _
      have hx3:∀ w' t',Al w1 w' t'→t' 2=(putT (putT t2 3 (bxT wr.heap.size #[.int .i64 pl,.int .i64 K,.int .i64 N,.int .i64 fl,.bool o,.slice xa l c,.int .i64 p,.int .u32 (z:Nat)])) 4 (r8T av f.1 cv f.2)) 2→t' 3=(putT (putT t2 3 (bxT wr.heap.size #[.int .i64 pl,.int .i64 K,.int .i64 N,.int .i64 fl,.bool o,.slice xa l c,.int .i64 p,.int .u32 (z:Nat)])) 4 (r8T av f.1 cv f.2)) 3→t' 6=(putT (putT t2 3 (bxT wr.heap.size #[.int .i64 pl,.int .i64 K,.int .i64 N,.int .i64 fl,.bool o,.slice xa l c,.int .i64 p,.int .u32 (z:Nat)])) 4 (r8T av f.1 cv f.2)) 6→Xa w' x b i ga ca gr cr9 gl wr.heap.size #[.int .i64 pl,.int .i64 K,.int .i64 N,.int .i64 fl,.bool o,.slice xa l c,.int .i64 p,.int .u32 (z:Nat)] E2 ls:=fun w' t' A e2 e3 e6=>HW.out.2.1 w' t' A (e2.trans (putT_ne _ _ (by omega))) (e3.trans (putT_ne _ _ (by omega))) (e6.trans (putT_ne _ _ (by omega)))
      have kk:=HT.2.2.1
      have kn:=HT.2.2.2.1
      have HE:Hid (_):=And.intro HW.out.2.2.1 (And.intro HW.out.2.2.2.1 (And.intro HW.out.2.2.2.2.1 (And.intro HW.out.2.2.2.2.2.1 (And.intro HW.out.2.2.2.2.2.2.1 HW.out.2.2.2.2.2.2.2))))
      have HY:Hid (_):=And.intro y3 (And.intro l3 hc3)
      generalize (putT (putT t2 3 (bxT wr.heap.size #[.int .i64 pl,.int .i64 K,.int .i64 N,.int .i64 fl,.bool o,.slice xa l c,.int .i64 p,.int .u32 (z:Nat)])) 4 (r8T av f.1 cv f.2))=t3 at W3 e3 e4 hx3
      have HX:Hid (_):=hx3
      clear hx3
      clear HW cF HS HT P2 b3 r3 far3 y3 l3 hc3 h2 hwb
      by_cases hK20:K=20
      ·as_aux_lemma=>
        subst hK20
        have hi1:is=false:=his.trans (decide_eq_false (by omega))
        subst hi1
        have cT:∀ wx,Below w3.heap.size w3 wx→_:=fun wx bx=>(W3.below bx).tickM N HE.out.2.2.2.2.1 (fun e he=>by have:=(HE.out.2.2.2.1.2 e he).2.1;omega)
        have HS3:w3.drew.cell? ⟨x,0,none⟩=some (.pointer (some ⟨b,0,none⟩))∧w3.drew.cell? ⟨wr.heap.size,2,none⟩=some (.int .i64 N):=by
         have X:=HX.out _ _ (W3.al.below (w':=w3.drew) (Below.drew (Below.refl _ _))) rfl rfl rfl
         exact⟨X.c0,cell_of_row _ _ 2 _ _ _ X.bx⟩
        have W4:Hid (_):=W3
        clear W3 his
        go_wp2_with fail
        go_region_held3 (fun w'=>w'.cell? ⟨x,0,none⟩=some (.pointer (some ⟨b,0,none⟩))∧w'.cell? ⟨wr.heap.size,2,none⟩=some (.int .i64 N)) (assumption) (first
         | (go_at_call 9;refine (cT _ (Below.drew (Below.refl _ _))).mono ?_;rintro e w4 ⟨v4,rfl,h4⟩;have HT4:w4.cell? ⟨x,0,none⟩=some (.pointer (some ⟨b,0,none⟩))∧w4.cell? ⟨wr.heap.size,2,none⟩=some (.int .i64 N):=(by obtain⟨t4,V4,A4,z4,o4,d4⟩:=h4.out;have X:=HX.out w4 t4 A4 (o4 2 (by omega) (fun _ _=>by omega)) (o4 3 (by omega) (fun _ _=>by omega)) (o4 6 (by omega) (fun _ _=>by omega));exact⟨X.c0,cell_of_row _ _ 2 _ _ _ X.bx⟩)))
        all_goals
         obtain⟨t4,V4,A4,z4,o4,d4⟩:=h4.out
         have L0:Hid (Tka w1 w4 t4 E2 ls N 0 0):=Tka.start A4
         have f2:=o4 2 (by omega) (fun _ _=>by omega)
         have f3:=o4 3 (by omega) (fun _ _=>by omega)
         have f6:=o4 6 (by omega) (fun _ _=>by omega)
         have hl4:∀ m e d,E2[m]?=some e→ls[m]?=some d→∃ D U,t4 (100+m)=dvT D U∧Lk e d D:=fun m e d he hd=>by
          have hm:=(List.getElem?_eq_some_iff.1 he).1
          have h8:=W4.out.le
          rw[o4 _ (by omega) (fun j hj=>by omega)]
          exact W4.out.los m e d he hd
         have hr4:∀ m e,E2[m]?=some e→∃ U,t4 (11+2*m)=rwT (e.L.rr e.s) U:=fun m e he=>by
          have hm:=(List.getElem?_eq_some_iff.1 he).1
          rw[o4 _ (by omega) (fun j hj=>by omega)]
          exact W4.out.rws m e he
         have HA4:Hid (_):=And.intro z4 (And.intro o4 (And.intro d4 (And.intro hl4 (And.intro hr4 (And.intro f2 (And.intro f3 f6))))))
         clear cT HS3 HT4 h4 A4 z4 o4 d4 hl4 hr4 f2 f3 f6 kk kn
         go_wp2_with fail
         obtain⟨wo,rfl⟩:∃ y,y=wr:=⟨_,rfl⟩
         go_loopw [17] (fun c wr=>∃ n2:Nat,n2≤i∧c=.int .i64 ((n2:Nat):Int)∧Hid (Tka w1 wr t4 E2 ls N n2 n2)) (fun c _=>i-natU c)
         case atStart=>exact⟨0,by omega,rfl,L0⟩
         case round=>
          obtain⟨n2,hn2,rfl,HQ⟩:=hrel
          clear L0
          have hEi:=HE.out.1
          have h8:=W4.out.le
          by_cases hlt2:n2<i
          ·have hlt2':(n2:Int) < (i:Int):=by omega
           obtain⟨e2,he2⟩:∃ e2,E2[n2]?=some e2:=⟨_,List.getElem?_eq_getElem (by omega)⟩
           obtain⟨d2,hd2⟩:∃ d2,ls[n2]?=some d2:=⟨_,List.getElem?_eq_getElem (by rw[W4.out.ll];omega)⟩
           have hrd:∀ wx a1 a2,Tka w1 wx t4 E2 ls N a1 a2→(wx.cell? ⟨gl,n2,none⟩=some (.pointer (some ⟨d2,0,none⟩))∧wx.cell? ⟨wo.heap.size,2,none⟩=some (.int .i64 N))∧(wx.cell? ⟨x,4,none⟩=some (.slice (some ⟨gr,0,none⟩) i cr9)∧wx.cell? ⟨gr,n2,none⟩=some (.pointer (some ⟨e2.L.e,0,none⟩))∧wx.cell? ⟨wo.heap.size,2,none⟩=some (.int .i64 N)):=fun wx a1 a2 hT=>by
            obtain⟨t5,A5,g2,g3,g6⟩:=hT.al
            obtain⟨_,_,_,_,_,f2,f3,f6⟩:=HA4.out
            have X:=HX.out wx t5 A5 (g2.trans f2) (g3.trans f3) (g6.trans f6)
            have Y:=X.rs n2 e2 d2 he2 hd2
            exact⟨⟨Y.2.2,cell_of_row _ _ 2 _ _ _ X.bx⟩,X.c4,Y.2.1,cell_of_row _ _ 2 _ _ _ X.bx⟩
           have hQ0:=HQ.out.below (w':=wr.drew) (Below.drew (Below.refl _ _))
           have S0:=(hrd _ _ _ hQ0).1
           have hLe:e2.s.L.length<800000:=by have:=(HE.out.2.2.2.1.2 e2 (List.mem_of_getElem? he2)).2.1;omega
           obtain⟨m5,g5,n5,mx5,U5,D5,hnx⟩:=hQ0.lone HA4.out.2.2.2.1 h8 (by omega) he2 hd2
           have q5:=dvtick_any d2 m5 g5 n5 mx5 e2.L.P U5 e2.s N wr.drew D5 HE.out.2.2.2.2.1 hLe
           have HN5:Hid (_):=And.intro hnx (And.intro hrd (And.intro he2 (And.intro hd2 (And.intro hLe h8))))
           clear hrd hQ0 D5 hnx he2 hd2 hLe h8 HQ hEi
           go_wp2_with fail
           go_region_held3 (fun w'=>w'.cell? ⟨gl,n2,none⟩=some (.pointer (some ⟨d2,0,none⟩))∧w'.cell? ⟨wo.heap.size,2,none⟩=some (.int .i64 N)) (assumption) (first
            | (go_at_call 10;refine q5.mono ?_;rintro e w5 ⟨rfl,h5⟩;have T5:Hid (Tka w1 w5 t4 E2 ls N (n2+1) n2):=(by obtain⟨U',G',D'⟩:=h5.out;exact HN5.out.1 U' w5 G' D');have HT5:w5.cell? ⟨gl,n2,none⟩=some (.pointer (some ⟨d2,0,none⟩))∧w5.cell? ⟨wo.heap.size,2,none⟩=some (.int .i64 N):=(HN5.out.2.1 _ _ _ T5.out).1))
           all_goals
            clear S0 HT5 q5 h5
            have hQ1:=T5.out.below (w':=w5.drew) (Below.drew (Below.refl _ _))
            have S1:=(HN5.out.2.1 _ _ _ hQ1).2
            obtain⟨U6,D6,hnx⟩:=hQ1.ref HA4.out.2.2.2.2.1 HN5.out.2.2.2.2.2 HN5.out.2.2.1
            have q6:=rvtick_any _ _ _ _ _ _ U6 _ N w5.drew D6 HE.out.2.2.2.2.1 HN5.out.2.2.2.2.1
            have HN6:Hid (_):=hnx
            clear hnx D6 hQ1
            go_wp2_with fail
            go_region_held3 (fun w'=>w'.cell? ⟨x,4,none⟩=some (.slice (some ⟨gr,0,none⟩) i cr9)∧w'.cell? ⟨gr,n2,none⟩=some (.pointer (some ⟨e2.L.e,0,none⟩))∧w'.cell? ⟨wo.heap.size,2,none⟩=some (.int .i64 N)) (assumption) (first
             | (go_at_call 11;refine q6.mono ?_;rintro e w6 ⟨rfl,h6⟩;have T6:Hid (Tka w1 w6 t4 E2 ls N (n2+1) (n2+1)):=(by obtain⟨U',G',D'⟩:=h6.out;exact HN6.out U' w6 G' D');have HT6:w6.cell? ⟨x,4,none⟩=some (.slice (some ⟨gr,0,none⟩) i cr9)∧w6.cell? ⟨gr,n2,none⟩=some (.pointer (some ⟨e2.L.e,0,none⟩))∧w6.cell? ⟨wo.heap.size,2,none⟩=some (.int .i64 N):=(HN5.out.2.1 _ _ _ T6.out).2))
            all_goals
             clear S1 HT6 q6 h6 HN6 HN5
             go_wp2_with fail
             go_roundw
             case rel=>exact⟨n2+1,by omega,by go_num,T6⟩
             case measure=>simp[natU] <;> omega
          ·obtain rfl:n2=i:=by omega
           have hii2:¬ (n2:Int) < (n2:Int):=by omega
           have H9:Hid (∃ t',Wa w1 wr x b (tkE E2 N) lost (.slice (some ⟨gl,0,none⟩) n2 m) ls t'):=by
            have hT:=HQ.out
            rw[← hEi]at hT
            exact hT.done W4.out HA4.out.1 HA4.out.2.1 HA4.out.2.2.1
           clear HQ h8
           go_wp2_with fail
           go_roundw
           case rel=>
            obtain⟨t9,W9⟩:=H9.out
            exact⟨k+1,by omega,by omega,by go_num,tkE E2 N,lost,ls,t9,W9,by rw[← hEi];simp[tkE],HE.out.2.2.2.1.tkE N⟩
           case measure=>simp[natU] <;> omega
      ·have hK20':(K=20)=False:=by simp[hK20]
       by_cases hK5:1≤K∧K≤5
       ·have hi1:is=true:=his.trans (decide_eq_true ⟨hK5.1,by omega⟩)
        subst hi1
        have n6:(K=6)=False:=by simp;omega
        have n7:(K=7)=False:=by simp;omega
        have b6:(K == 6)=false:=by simp;omega
        have b7:(K == 7)=false:=by simp;omega
        obtain⟨i9,hi9,hy0,hy1,hy2⟩:=info_parts info_u8
        have hbd:=build0D
        obtain⟨y3,l3,hc3⟩:=HY.out
        obtain⟨V3,em⟩:=W3.mx
        have HC:∀ wx,Below w3.heap.size w3 wx→wx.cell? ⟨x,0,none⟩=some (.pointer (some ⟨b,0,none⟩)):=fun wx bx=>(HX.out wx t3 (W3.al.below bx) rfl rfl rfl).c0
        have hRw:∀ wx,Below w3.heap.size w3 wx→Row8 wx av f.1 cv f.2:=fun wx bx=>(W3.al.below bx).get e4
        have HS3:w3.drew.cell? ⟨x,0,none⟩=some (.pointer (some ⟨b,0,none⟩)):=HC _ (Below.drew (Below.refl _ _))
        by_cases hf0:f.1=0
        ·as_aux_lemma=>
          have hpf:pfE (prts E2) f.2 f.1=40:=by rw[hf0];exact pfE_none _ _
          have hlo:lost<1000000:=by have:=HE.out.2.2.2.1.1;omega
          have cR:∀ wx,Below w3.heap.size w3 wx→∀ a5 c5,Row8 wx a5 f.1 c5 f.2→Calls Tryz.prog 12 #[.pointer (some ⟨b,0,none⟩),.slice a5 f.1 c5] wx fun e w'=>e=.returned (.tuple #[.int .u32 0,.slice none 0 0,.int .i64 40])∧Hid (∃ t',Al w1 w' t'∧t' 0=mxT b (prts E2) (lost+1) V3∧∀ i,i≠0→t' i=t3 i):=fun wx bx a5 c5 r5=>by
           have:=recvP_lost (W3.al.below bx) em r5 (by rw[hpf];omega) hlo
           rw[hpf]at this
           exact this
          have W4:Hid (_):=W3
          have HF0:Hid (f.1=0):=hf0
          clear W3 em e4 e3 hpf hlo his hf0
          go_wp2_with fail
          go_region_held3 (fun w'=>w'.cell? ⟨x,0,none⟩=some (.pointer (some ⟨b,0,none⟩))) (first | with_reducible assumption | exact HC _ (by repeat (first | with_reducible assumption | with_reducible refine below_drewNB' ?_ _ | with_reducible refine Below.drew ?_ | with_reducible refine belowA ?_ _ | with_reducible exact Below.refl _ _))) (first
           | (refine step_append8L rfl (.tmp 158) (.tmp 159) rfl w3.heap.size _ rfl (by first | exact own0L _ _ (Nat.le_refl _) | exact own0Ld _ _ (Nat.le_refl _)) av f.1 cv f.2 rfl (hRw _ (by repeat (first | with_reducible assumption | with_reducible refine below_drewNB' ?_ _ | with_reducible refine Below.drew ?_ | with_reducible refine belowA ?_ _ | with_reducible exact Below.refl _ _))) l3 w3 (by repeat (first | with_reducible assumption | with_reducible refine below_drewNB' ?_ _ | with_reducible refine Below.drew ?_ | with_reducible refine belowA ?_ _ | with_reducible exact Below.refl _ _)) (Nat.le_refl _) ?_;intro a5 c5 w5 H5 b5;have cC:=cR w5 b5 a5 c5 (own_slice8 H5.out y3))
           | (go_at_call 12;refine cC.mono ?_;rintro e w6 ⟨rfl,h6⟩;have HT:w6.cell? ⟨x,0,none⟩=some (.pointer (some ⟨b,0,none⟩)):=(by obtain⟨t6,A6,_,o6⟩:=h6.out;exact (HX.out w6 t6 A6 (o6 2 (by omega)) (o6 3 (by omega)) (o6 6 (by omega))).c0)))
          all_goals
           have hfi:(f.1:Int)=0:=by have:=HF0.out;omega
           clear cC cR HC hRw HT HS3
           go_wp2_with fail
           go_roundw
           case rel=>
            obtain⟨t6,A6,z6,o6⟩:=h6.out
            exact⟨k+1,by omega,by omega,by go_num,E2,lost+1,ls,t6,W4.out.lostA A6 z6 (fun i h0 _ _ _=>o6 i h0),HE.out.1,by have:=HE.out.2.2.2.1;exact⟨by have:=this.1;omega,this.same.2⟩⟩
           case measure=>simp[natU] <;> omega
        ·as_aux_lemma=>
          obtain⟨hDD,hcc⟩:DE f.2 f.1=0∧w4v f.2 1=en.L.P.c:=(hc3 hK5.1 hK5.2).resolve_left hf0
          obtain⟨hEi,he,hd,hBd,hN9,hpos9⟩:=HE.out
          obtain⟨hv,hb1,hb2,hb3⟩:=hBd.2 en (List.mem_of_getElem? he)
          obtain⟨hjj,hje⟩:=List.getElem?_eq_some_iff.1 he
          obtain⟨Ud,ed⟩:=W3.dv j hjj
          rw[hje]at ed
          obtain⟨Ur,er⟩:=W3.rws j en he
          obtain⟨Dl,Ul,el,lk⟩:=W3.los j en dl he hd
          obtain⟨ld,lm,lg,ln,lmx,lP,lS⟩:=Dl
          obtain⟨lk1,lk2,lk3,lk4,lk5⟩:=lk
          dsimp only at lk1 lk2 lk3 lk4 lk5
          subst lk1 lk2 lk3 lk4 lk5
          have hu:=(W3.al.mx em).uniq
          have h8:=W3.le
          have hDV:=W3.al.dv ed
          have hmo:Mo en.L.mx en.L.n en.s:=Mo.of hDV
          have hPk:Pok en.L.P:=by obtain⟨B,y⟩:=id hDV;exact y.pok
          have hv':=hv.recv hPk hmo f.1 f.2
          have hgw:=gw_recv (P:=en.L.P) hmo f.1 f.2
          have hLl:en.s.L.length<800000:=by omega
          have htl:en.s.ms.t<9223372036854774000:=by omega
          have hnl:en.n<1000000:=by omega
          have cR:∀ wx,Below w3.heap.size w3 wx→∀ a5 c5,Row8 wx a5 f.1 c5 f.2→(∀ z,a5=some z→w3.heap.size≤z.block)→Calls Tryz.prog 12 #[.pointer (some ⟨b,0,none⟩),.slice a5 f.1 c5] wx fun e w'=>∃ ax cx,e=.returned (.tuple #[.int .u32 (en.L.P.c:Nat),.slice ax (drecv en.L.P en.L.mx en.L.n en.s f.1 f.2).f.1 cx,.int .i64 (drecv en.L.P en.L.mx en.L.n en.s f.1 f.2).e])∧Hid (∃ t' U',Al w1 w' t'∧t' 0=mxT b (bump (prts E2) en.L.P.c) lost V3∧t' (10+2*j)=dvT (en.L.dr (drecv en.L.P en.L.mx en.L.n en.s f.1 f.2).s) U'∧t' 5=r8T ax (drecv en.L.P en.L.mx en.L.n en.s f.1 f.2).f.1 cx (drecv en.L.P en.L.mx en.L.n en.s f.1 f.2).f.2∧∀ i,i≠0→i≠10+2*j→i≠5→t' i=t3 i):=fun wx bx a5 c5 r5 hfar=>recvP_found (W3.al.below bx) em he ed r5 (fun z hz hm=>by
           have h1:=hfar z hz
           have h2:=(W3.al.lt 0 z.block (by rw[em];exact hm)).2
           omega) hDD hcc hv hLl htl hnl
          have cL:∀ wx tx,Al w1 wx tx→tx (100+j)=dvT ⟨ld,lm,lg,en.L.n,en.L.mx,en.L.P,en.s⟩ Ul→∀ a7 c7,Row8 wx a7 f.1 c7 f.2→Calls Tryz.prog 13 #[.pointer (some ⟨ld,0,none⟩),.slice a7 f.1 c7] wx fun e w'=>∃ ay cy,e=.returned (.tuple #[.slice ay (drecv en.L.P en.L.mx en.L.n en.s f.1 f.2).f.1 cy,.int .i64 (drecv en.L.P en.L.mx en.L.n en.s f.1 f.2).e])∧Hid (∃ t' U',Al w1 w' t'∧t' (100+j)=dvT ⟨ld,lm,lg,en.L.n,en.L.mx,en.L.P,(drecv en.L.P en.L.mx en.L.n en.s f.1 f.2).s⟩ U'∧t' 7=r8T ay (drecv en.L.P en.L.mx en.L.n en.s f.1 f.2).f.1 cy (drecv en.L.P en.L.mx en.L.n en.s f.1 f.2).f.2∧∀ i,i≠100+j→i≠7→t' i=tx i):=fun wx tx A ex a7 c7 r7=>recvL A ex (by omega) r7 hv hLl htl
          have cQ:∀ wx tx,Al w1 wx tx→tx (11+2*j)=rwT (en.L.rr en.s) Ur→Row8 wx av f.1 cv f.2→Calls Tryz.prog 14 #[.pointer (some ⟨en.L.e,0,none⟩),.slice av f.1 cv] wx fun e w'=>∃ v,e=.returned (.tuple #[v,.int .i64 (drecv en.L.P en.L.mx en.L.n en.s f.1 f.2).e])∧Hid (∃ t' U',Al w1 w' t'∧t' (11+2*j)=rwT (en.L.rr (drecv en.L.P en.L.mx en.L.n en.s f.1 f.2).s) U'∧∀ i,i≠11+2*j→t' i=tx i):=fun wx tx A ex r9=>recvQ A ex r9 hv hLl htl
          generalize hRR:drecv en.L.P en.L.mx en.L.n en.s f.1 f.2=R at *
          have H3:Hid (_):=And.intro W3 (And.intro hu (And.intro he (And.intro hd (And.intro hBd (And.intro hv' (And.intro hgw (And.intro h8 (And.intro er (And.intro el e4)))))))))
          have HL:Hid (_):=cL
          have HQ:Hid (_):=cQ
          have HFn:Hid (¬ f.1=0):=hf0
          have HRR:Hid (_):=hRR
          clear hRR cL cQ W3 em e4 e3 his hf0 hDD hcc hEi he hd hBd hN9 hpos9 hv hb1 hb2 hb3 hjj hje ed er el hu h8 hDV hmo hPk hv' hgw hLl htl hnl
          go_wp2_with fail
          go_region_held3 (fun w'=>w'.cell? ⟨x,0,none⟩=some (.pointer (some ⟨b,0,none⟩))) (first | with_reducible assumption | exact HC _ (by repeat (first | with_reducible assumption | with_reducible refine below_drewNB' ?_ _ | with_reducible refine Below.drew ?_ | with_reducible refine belowA ?_ _ | with_reducible exact Below.refl _ _))) (first
           | (refine step_append8L rfl (.tmp 158) (.tmp 159) rfl w3.heap.size _ rfl (by first | exact own0L _ _ (Nat.le_refl _) | exact own0Ld _ _ (Nat.le_refl _)) av f.1 cv f.2 rfl (hRw _ (by repeat (first | with_reducible assumption | with_reducible refine below_drewNB' ?_ _ | with_reducible refine Below.drew ?_ | with_reducible refine belowA ?_ _ | with_reducible exact Below.refl _ _))) l3 w3 (by repeat (first | with_reducible assumption | with_reducible refine below_drewNB' ?_ _ | with_reducible refine Below.drew ?_ | with_reducible refine belowA ?_ _ | with_reducible exact Below.refl _ _)) (Nat.le_refl _) ?_;intro a5 c5 w5 H5 b5;have cC:=cR w5 b5 a5 c5 (own_slice8 H5.out y3) (fun z hz=>(own_far H5.out z hz).1))
           | (go_at_call 12;refine cC.mono ?_;rintro e w6 ⟨ax,cx,rfl,h6⟩;have HT:w6.cell? ⟨x,0,none⟩=some (.pointer (some ⟨b,0,none⟩)):=(by obtain⟨t6,U6,A6,_,_,_,o6⟩:=h6.out;exact (HX.out w6 t6 A6 (o6 2 (by omega) (by omega) (by omega)) (o6 3 (by omega) (by omega) (by omega)) (o6 6 (by omega) (by omega) (by omega))).c0)))
          all_goals
           obtain⟨t6,U6,A6,z6,d6,r6,o6⟩:=h6.out
           have hfi:((f.1:Int)=0)=False:=by have:=HFn.out;simp;omega
           have hfb:((f.1:Int) == 0)=false:=by have:=HFn.out;simp;omega
           have hC6:∀ wx,Below w6.heap.size w6 wx→wx.cell? ⟨gl,j,none⟩=some (.pointer (some ⟨ld,0,none⟩)):=fun wx bx=>((HX.out wx t6 (A6.below bx) (o6 2 (by omega) (by omega) (by omega)) (o6 3 (by omega) (by omega) (by omega)) (o6 6 (by omega) (by omega) (by omega))).rs j en ld HE.out.2.1 HE.out.2.2.1).2.2
           have hR6:∀ wx,Below w6.heap.size w6 wx→Row8 wx av f.1 cv f.2:=fun wx bx=>(A6.below bx).get ((o6 4 (by omega) (by omega) (by omega)).trans H3.out.2.2.2.2.2.2.2.2.2.2)
           have cL:∀ wx,Below w6.heap.size w6 wx→∀ a7 c7,Row8 wx a7 f.1 c7 f.2→Calls Tryz.prog 13 #[.pointer (some ⟨ld,0,none⟩),.slice a7 f.1 c7] wx fun e w'=>∃ ay cy,e=.returned (.tuple #[.slice ay R.f.1 cy,.int .i64 R.e])∧Hid (∃ t' U',Al w1 w' t'∧t' (100+j)=dvT ⟨ld,lm,lg,en.L.n,en.L.mx,en.L.P,R.s⟩ U'∧t' 7=r8T ay R.f.1 cy R.f.2∧∀ i,i≠100+j→i≠7→t' i=t6 i):=fun wx bx a7 c7 r7=>HL.out wx t6 (A6.below bx) ((o6 _ (by omega) (by have:=H3.out.2.2.2.2.2.2.2.1;have:=(List.getElem?_eq_some_iff.1 HE.out.2.1).1;omega) (by omega)).trans H3.out.2.2.2.2.2.2.2.2.2.1) a7 c7 r7
           have HS6:w6.drew.cell? ⟨gl,j,none⟩=some (.pointer (some ⟨ld,0,none⟩)):=hC6 _ (Below.drew (Below.refl _ _))
           have H6:Hid (_):=And.intro A6 (And.intro z6 (And.intro d6 (And.intro r6 o6)))
           clear A6 z6 d6 r6 o6 h6 cC cR HC hRw HT HS3 HL
           go_wp2_with fail
           go_region_held3 (fun w'=>w'.cell? ⟨gl,j,none⟩=some (.pointer (some ⟨ld,0,none⟩))) (first | with_reducible assumption | exact hC6 _ (by repeat (first | with_reducible assumption | with_reducible refine below_drewNB' ?_ _ | with_reducible refine Below.drew ?_ | with_reducible refine belowA ?_ _ | with_reducible exact Below.refl _ _))) (first
            | (refine step_append8L rfl (.tmp 179) (.tmp 180) rfl w6.heap.size _ rfl (by first | exact own0L _ _ (Nat.le_refl _) | exact own0Ld _ _ (Nat.le_refl _)) av f.1 cv f.2 rfl (hR6 _ (by repeat (first | with_reducible assumption | with_reducible refine below_drewNB' ?_ _ | with_reducible refine Below.drew ?_ | with_reducible refine belowA ?_ _ | with_reducible exact Below.refl _ _))) l3 w6 (by repeat (first | with_reducible assumption | with_reducible refine below_drewNB' ?_ _ | with_reducible refine Below.drew ?_ | with_reducible refine belowA ?_ _ | with_reducible exact Below.refl _ _)) (Nat.le_refl _) ?_;intro a7 c7 w7 H7 b7;have cC:=cL w7 b7 a7 c7 (own_slice8 H7.out y3))
            | (go_at_call 13;refine cC.mono ?_;rintro e w8 ⟨ay,cy,rfl,h8⟩;have HT:w8.cell? ⟨gl,j,none⟩=some (.pointer (some ⟨ld,0,none⟩)):=(by obtain⟨t8,U8,A8,_,_,o8⟩:=h8.out;obtain⟨_,_,_,_,o6⟩:=H6.out;exact ((HX.out w8 t8 A8 ((o8 2 (by omega) (by omega)).trans (o6 2 (by omega) (by omega) (by omega))) ((o8 3 (by omega) (by omega)).trans (o6 3 (by omega) (by omega) (by omega))) ((o8 6 (by omega) (by omega)).trans (o6 6 (by omega) (by omega) (by omega)))).rs j en ld HE.out.2.1 HE.out.2.2.1).2.2)))
           all_goals
            have hj8:j<8:=by have:=H3.out.2.2.2.2.2.2.2.1;have:=(List.getElem?_eq_some_iff.1 HE.out.2.1).1;omega
            obtain⟨t8,U8,A8,l8,r8,o8⟩:=h8.out
            obtain⟨A6,z6,d6,r6,o6⟩:=H6.out
            have k8:(w8).cell? ⟨x,4,none⟩=some (.slice (some ⟨gr,0,none⟩) i cr9)∧(w8).cell? ⟨gr,j,none⟩=some (.pointer (some ⟨en.L.e,0,none⟩)):=by
             have X:=HX.out w8 t8 A8 ((o8 2 (by omega) (by omega)).trans (o6 2 (by omega) (by omega) (by omega))) ((o8 3 (by omega) (by omega)).trans (o6 3 (by omega) (by omega) (by omega))) ((o8 6 (by omega) (by omega)).trans (o6 6 (by omega) (by omega) (by omega)))
             exact⟨X.c4,(X.rs j en ld HE.out.2.1 HE.out.2.2.1).2.1⟩
            have cQ:=HQ.out w8 t8 A8 ((o8 _ (by omega) (by omega)).trans ((o6 _ (by omega) (by omega) (by omega)).trans H3.out.2.2.2.2.2.2.2.2.1)) (A8.get ((o8 4 (by omega) (by omega)).trans ((o6 4 (by omega) (by omega) (by omega)).trans H3.out.2.2.2.2.2.2.2.2.2.2)))
            have H8:Hid (_):=And.intro l8 (And.intro r8 o8)
            clear HT HS6 cC cL hC6 hR6 hfi hfb h8 A8 l8 r8 o8 A6 z6 d6 r6 o6 HQ
            go_wp2_with fail
            refine cQ.mono ?_
            rintro e w9 ⟨vq,rfl,h9⟩
            obtain⟨t9,U9,A9,q9,o9⟩:=h9.out
            obtain⟨l8,r8,o8⟩:=H8.out
            obtain⟨A6,z6,d6,r6,o6⟩:=H6.out
            obtain⟨W3,hu,he,hd,hBd,hv',hgw,h8,er,el,e4⟩:=H3.out
            have f0:=(o9 0 (by omega)).trans ((o8 0 (by omega) (by omega)).trans z6)
            have f1:=(o9 (10+2*j) (by omega)).trans ((o8 _ (by omega) (by omega)).trans d6)
            have f5:=(o9 5 (by omega)).trans ((o8 5 (by omega) (by omega)).trans r6)
            have f7:=(o9 7 (by omega)).trans r8
            have f10:=(o9 (100+j) (by omega)).trans l8
            have W9:Wa w1 w9 x b (setN E2 j R.s) lost (.slice (some ⟨gl,0,none⟩) i m) ls t9:=W3.foundA hu he hd A9 f0 f1 q9 f10 ⟨rfl,rfl,rfl,rfl,rfl⟩ (fun y y0 y3 y4 y5 y7 y8 y9 y10=>(o9 y y9).trans ((o8 y y10 y7).trans (o6 y y0 y8 y5)))
            obtain⟨X,hX⟩:∃ X,BA R.f.2 R.f.1=X:=⟨_,rfl⟩
            have hS9:∀ wx,Below w9.heap.size w9 wx→(wx).cell? ⟨x,4,none⟩=some (.slice (some ⟨gr,0,none⟩) i cr9)∧(wx).cell? ⟨gr,j,none⟩=some (.pointer (some ⟨en.L.e,0,none⟩))∧(wx).cell? ⟨en.L.e,0,none⟩=some (.int .u32 (en.L.P.c:Nat))∧(wx).cell? ⟨x,2,none⟩=some (.slice (some ⟨ga,0,none⟩) i ca)∧(wx).cell? ⟨ga,j,none⟩=some (.pointer (some ⟨en.L.d,0,none⟩))∧(wx).cell? ⟨gl,j,none⟩=some (.pointer (some ⟨ld,0,none⟩))∧(convert 50 9 (.slice ax R.f.1 cx)).run Tryz.prog (wx)=.ok (.string X) (wx)∧(convert 50 9 (.slice ay R.f.1 cy)).run Tryz.prog (wx)=.ok (.string X) (wx):=fun wx bx=>by
             have Y:=HX.out wx t9 (A9.below bx) ((o9 2 (by omega)).trans ((o8 2 (by omega) (by omega)).trans (o6 2 (by omega) (by omega) (by omega)))) ((o9 3 (by omega)).trans ((o8 3 (by omega) (by omega)).trans (o6 3 (by omega) (by omega) (by omega)))) ((o9 6 (by omega)).trans ((o8 6 (by omega) (by omega)).trans (o6 6 (by omega) (by omega) (by omega))))
             have Z:=Y.rs j en ld HE.out.2.1 HE.out.2.2.1
             have c1:=conv_any ax R.f.1 cx R.f.2 wx ((A9.below bx).get f5)
             have c2:=conv_any ay R.f.1 cy R.f.2 wx ((A9.below bx).get f7)
             rw[hX]at c1 c2
             exact⟨Y.c4,Z.2.1,((A9.below bx).rw q9).code,Y.c2,Z.1,Z.2.2,c1,c2⟩
            have hSe1:∀ wx,Below w9.heap.size w9 wx→Calls Tryz.prog 16 #[.pointer (some ⟨en.L.d,0,none⟩)] wx fun e w'=>∃ v,e=.returned v∧∃ a2 c2,v=.agg #[.int .i64 (R.s.st:Nat),.int .u32 (R.s.ss:Nat),.int .u32 (R.s.nm:Nat),.int .u32 (R.s.sn:Nat),.int .i64 (R.s.dc:Nat),.int .i64 R.s.v.lat,.bool (vreq R.s.v),.bool (von R.s.v),.slice a2 en.L.P.o c2]∧Hid (Row8 w' a2 en.L.P.o c2 (vout R.s.v)∧Below wx.heap.size wx w')∧Below w9.heap.size w9 w':=fun wx hx=>by
             refine (seeS_any _ _ _ _ _ _ _ _ wx ((A9.below hx).dv f1)).mono ?_
             rintro e w' ⟨a9,c9,rfl,h9⟩
             exact⟨_,rfl,a9,c9,rfl,⟨h9.out.2.1,h9.out.2.2⟩,hx.trans (h9.out.2.2.mono hx.size)⟩
            have hSe2:∀ wx,Below w9.heap.size w9 wx→Calls Tryz.prog 16 #[.pointer (some ⟨ld,0,none⟩)] wx fun e w'=>∃ v,e=.returned v∧∃ a2 c2,v=.agg #[.int .i64 (R.s.st:Nat),.int .u32 (R.s.ss:Nat),.int .u32 (R.s.nm:Nat),.int .u32 (R.s.sn:Nat),.int .i64 (R.s.dc:Nat),.int .i64 R.s.v.lat,.bool (vreq R.s.v),.bool (von R.s.v),.slice a2 en.L.P.o c2]∧Hid (Row8 w' a2 en.L.P.o c2 (vout R.s.v)∧Below wx.heap.size wx w')∧Below w9.heap.size w9 w':=fun wx hx=>by
             refine (seeS_any _ _ _ _ _ _ _ _ wx ((A9.below hx).dv f10)).mono ?_
             rintro e w' ⟨a9,c9,rfl,h9⟩
             exact⟨_,rfl,a9,c9,rfl,⟨h9.out.2.1,h9.out.2.2⟩,hx.trans (h9.out.2.2.mono hx.size)⟩
            have hSm:∀ wx a2 c2 a3 c3,Below w9.heap.size w9 wx→Row8 wx a2 en.L.P.o c2 (vout R.s.v)→Row8 wx a3 en.L.P.o c3 (vout R.s.v)→Calls Tryz.prog 15 #[.agg #[.int .i64 (R.s.st:Nat),.int .u32 (R.s.ss:Nat),.int .u32 (R.s.nm:Nat),.int .u32 (R.s.sn:Nat),.int .i64 (R.s.dc:Nat),.int .i64 R.s.v.lat,.bool (vreq R.s.v),.bool (von R.s.v),.slice a2 en.L.P.o c2],.agg #[.int .i64 (R.s.st:Nat),.int .u32 (R.s.ss:Nat),.int .u32 (R.s.nm:Nat),.int .u32 (R.s.sn:Nat),.int .i64 (R.s.dc:Nat),.int .i64 R.s.v.lat,.bool (vreq R.s.v),.bool (von R.s.v),.slice a3 en.L.P.o c3]] wx fun e w'=>∃ v,e=.returned v∧(v=.bool true∧Below w9.heap.size w9 w'):=fun wx a2 c2 a3 c3 hx r2 r3=>
             (same13_any _ _ _ _ _ _ _ _ a2 a3 _ _ c2 c3 _ _ wx r2 r3 rfl).mono fun _ _ ⟨e,hb⟩=>⟨_,e,rfl,hx.trans (hb.mono hx.size)⟩
            have HS9:(w9.drew).cell? ⟨x,4,none⟩=some (.slice (some ⟨gr,0,none⟩) i cr9)∧(w9.drew).cell? ⟨gr,j,none⟩=some (.pointer (some ⟨en.L.e,0,none⟩))∧(w9.drew).cell? ⟨en.L.e,0,none⟩=some (.int .u32 (en.L.P.c:Nat))∧(w9.drew).cell? ⟨x,2,none⟩=some (.slice (some ⟨ga,0,none⟩) i ca)∧(w9.drew).cell? ⟨ga,j,none⟩=some (.pointer (some ⟨en.L.d,0,none⟩))∧(w9.drew).cell? ⟨gl,j,none⟩=some (.pointer (some ⟨ld,0,none⟩))∧(convert 50 9 (.slice ax R.f.1 cx)).run Tryz.prog (w9.drew)=.ok (.string X) (w9.drew)∧(convert 50 9 (.slice ay R.f.1 cy)).run Tryz.prog (w9.drew)=.ok (.string X) (w9.drew):=hS9 _ (Below.drew (Below.refl _ _))
            have HB9:Hid (_):=hBd.setN he hv' hgw
            have HW9:Hid (_):=W9
            clear cQ k8 h9 A9 q9 o9 l8 r8 o8 A6 z6 d6 r6 o6 W3 hu he hd hBd hv' hgw h8 er el e4 f0 f1 f5 f7 f10 hX W9 H8 H6 H3
            go_wp2_with fail
            go_region_held3 (fun wx=>(wx).cell? ⟨x,4,none⟩=some (.slice (some ⟨gr,0,none⟩) i cr9)∧(wx).cell? ⟨gr,j,none⟩=some (.pointer (some ⟨en.L.e,0,none⟩))∧(wx).cell? ⟨en.L.e,0,none⟩=some (.int .u32 (en.L.P.c:Nat))∧(wx).cell? ⟨x,2,none⟩=some (.slice (some ⟨ga,0,none⟩) i ca)∧(wx).cell? ⟨ga,j,none⟩=some (.pointer (some ⟨en.L.d,0,none⟩))∧(wx).cell? ⟨gl,j,none⟩=some (.pointer (some ⟨ld,0,none⟩))∧(convert 50 9 (.slice ax R.f.1 cx)).run Tryz.prog (wx)=.ok (.string X) (wx)∧(convert 50 9 (.slice ay R.f.1 cy)).run Tryz.prog (wx)=.ok (.string X) (wx)) (first | with_reducible assumption | exact hS9 _ (by repeat (first | with_reducible assumption | with_reducible refine below_drewNB' ?_ _ | with_reducible refine Below.drew ?_ | with_reducible refine belowA ?_ _ | with_reducible exact Below.refl _ _))) (first
             | (refine step_callA 16 #[.tmp 226] #[35] rfl (by kernel_rfl) #[.pointer (some ⟨en.L.d,0,none⟩)] (by kernel_rfl) (hSe1 _ (by repeat (first | with_reducible assumption | with_reducible refine below_drewNB' ?_ _ | with_reducible refine Below.drew ?_ | with_reducible refine belowA ?_ _ | with_reducible exact Below.refl _ _))) ?_;intro v2 w10 h2;obtain⟨a2,c2,rfl,H2,hB2⟩:=h2)
             | (refine step_callA 16 #[.tmp 231] #[35] rfl (by kernel_rfl) #[.pointer (some ⟨ld,0,none⟩)] (by kernel_rfl) (hSe2 _ (by repeat (first | with_reducible assumption | with_reducible refine below_drewNB' ?_ _ | with_reducible refine Below.drew ?_ | with_reducible refine belowA ?_ _ | with_reducible exact Below.refl _ _))) ?_;intro v3 w11 h3;obtain⟨a3,c3,rfl,H3,hB3⟩:=h3;have H2:=hid (H2.out.1.below H3.out.2))
             | (refine step_callA 15 #[.tmp 227,.tmp 232] #[74,74] rfl (by kernel_rfl) _ (by kernel_rfl) (hSm _ _ _ _ _ (by repeat (first | with_reducible assumption | with_reducible refine below_drewNB' ?_ _ | with_reducible refine Below.drew ?_ | with_reducible refine belowA ?_ _ | with_reducible exact Below.refl _ _)) H2.out H3.out.1) ?_;intro v4 w12 h4;obtain⟨rfl,hB4⟩:=h4;clear H2 H3))
            all_goals
             have HB4:Hid (_):=hB4
             clear hS9 HS9 hSe1 hSe2 hSm hB2 hB3 hB4
             go_wp2_with fail
             go_roundw
             case rel=>exact⟨k+1,by omega,by omega,by go_num,setN E2 j R.s,lost,ls,t9,HW9.out.below HB4.out,by rw[setN_len];exact HE.out.1,HB9.out⟩
             case measure=>simp[natU] <;> omega
       ·have W4:Hid (_):=W3
        clear W3
        by_cases hK7:1≤K∧K≤7
        ·have hi1:is=true:=by exact his.trans (decide_eq_true hK7)
         subst hi1
         clear his
         have:K=6∨K=7:=by omega
         rcases this with rfl | rfl
         all_goals
          go_wp2_with fail
          go_roundw
          case rel=>exact⟨k+1,by omega,by omega,by go_num,E2,lost,ls,t3,W4.out,HE.out.1,HE.out.2.2.2.1.same⟩
          case measure=>simp[natU] <;> omega
        ·have hi1:is=false:=by exact his.trans (decide_eq_false hK7)
         subst hi1
         clear his
         go_wp2_with fail
         go_roundw
         case rel=>exact⟨k+1,by omega,by omega,by go_num,E2,lost,ls,t3,W4.out,HE.out.1,HE.out.2.2.2.1.same⟩
         case measure=>simp[natU] <;> omega
    ·have hno:((k:Int) < (len1:Int))=False∨((k:Int) < (len1:Int))=True∧((k:Int)<300)=False:=by
      by_cases h1:k<len1
      ·exact .inr ⟨by simp;omega,by simp;omega⟩
      ·exact .inl (by simp;omega)
     have H5:Hid (Below w1.heap.size w1 wr):=by
      obtain⟨_,_,_,_,hA,_⟩:=HK.out
      exact hA.al.bel
     clear HK
     rcases hno with h1 | ⟨h1,h2⟩
     all_goals
      go_wp2_with fail
      go_ret
      exact⟨rfl,H1.out.trans (H5.out.mono H1.out.size)⟩
theorem muxApart_walk (a0:Option Addr) (len0 cap0:Nat) (z0:List Int) (a1:Option Addr) (len1 cap1:Nat) (w:World) (w0:BRow .u32 w a0 len0 cap0 z0) (w1:OpRow w a1 len1) :
  Calls Tryz.prog 3 #[.slice a0 len0 cap0,.slice a1 len1 cap1] w fun e w'=>e=.returned (.bool true)∧Below w.heap.size w w':=mapart_core a0 len0 cap0 z0 a1 len1 cap1 w w0 w1
end Go.Proofs.YthbogkaoidbpgaaGreat
