/- Part 25 of the texts on which the proofs of layer 13 rest: contracts of Go functions. -/
import Derived.Test.YthbogkaoidbpgaaGreatPkB14
import Derived.Test.YthbogkaoidbpgaaGreatPkB23
namespace Go.Proofs.YthbogkaoidbpgaaGreat
set_option maxRecDepth 100000
open Go.RowKit Go.Maps Go.Sort Go.Shelf
set_option maxHeartbeats 8000000 in
theorem build_any (a:Option Addr) (len cap:Nat) (zs:List Int) (w:World) (hr:BRow .u32 w a len cap zs) :
  Calls Tryz.prog 6 #[.slice a len cap] w fun e w'=>∃ x,e=.returned (.tuple #[.pointer (some ⟨x,0,none⟩),.bool true])∧Hid (∃ b r,Wb w w' x b r):=by
 have hN:=mnew_any w
 have HR:Hid (_):=hr
 clear hr
 obtain⟨i0,hi,hz0,hz1,hz2⟩:=info_parts info_pA
 obtain⟨j0,hj,hy0,hy1,hy2⟩:=info_parts info_pM
 obtain⟨k0,hk,hx0,hx1,hx2⟩:=info_parts info_ptM
 go_enter Tryz.func6,Tryz.ntmps6
 go_wp2_with (go_at_call 17;refine hN.mono ?_;rintro e w1 ⟨rfl,h1⟩)
 have HB:Hid (Wb w ((w1.alloc (.cells #[.slice none 0 0,.slice none 0 0,.int .i64 0] 98)).alloc (.cells #[.pointer (some ⟨w.heap.size+2,0,none⟩),.pointer (some ⟨w1.heap.size,0,none⟩),.slice none 0 0,.slice none 0 0,.slice none 0 0] 34)) (w1.heap.size+1) (w.heap.size+2) w1.heap.size):=by
  obtain⟨b1,s1,m1⟩:=h1.out
  have:=Wb.start (b:=w.heap.size+2) b1 m1 (by omega) rfl rfl rfl
  rw[show (w1.alloc (.cells #[.slice none 0 0,.slice none 0 0,.int .i64 0] 98)).heap.size=w1.heap.size+1 by simp]at this
  exact this
 clear hN h1
 generalize w1.heap.size+1=x at *
 generalize w1.heap.size=r at *
 generalize w.heap.size+2=b at *
 generalize (w1.alloc (.cells #[.slice none 0 0,.slice none 0 0,.int .i64 0] 98)).alloc (.cells #[.pointer (some ⟨b,0,none⟩),.pointer (some ⟨r,0,none⟩),.slice none 0 0,.slice none 0 0,.slice none 0 0] 34)=W at *
 go_loopw [5,6,7,8,9,10] (fun c _ _ _ _ _ wr=>∃ i:Nat,i≤len∧i≤12∧c=.int .i64 ((i:Nat):Int)∧Hid (Wb w wr x b r)) (fun c _ _ _ _ _ _=>12-natU c)
 case atStart=>exact⟨0,by omega,by omega,rfl,HB⟩
 case round=>
  obtain⟨i,hil,hi12,rfl,HW⟩:=hrel
  clear HB
  by_cases hlt:i<len∧i<12
  ·obtain⟨hlt,hlt2⟩:=hlt
   have hlt':(i:Int) < (len:Int):=by omega
   have hlt2':(i:Int)<12:=by omega
   obtain⟨g,off,rfl,hg,hcs⟩:=BRow.nums HR.out (by omega)
   obtain⟨d1,wf⟩:=hcs i hlt
   have hb:=bounds_u32 wf
   obtain⟨c,hc⟩:∃ c:Nat,zs.getD i 0=(c:Int):=⟨(zs.getD i 0).toNat,by omega⟩
   rw[hc]at d1 hb
   have hcl:c<4294967296:=by omega
   clear hc wf hb hcs
   obtain⟨E,t,hWo,hall⟩:=HW.out
   have d2:wr.cell? ⟨g,off+i,none⟩=some (.int .u32 (c:Nat)):=(World.cell?_of_block (hWo.al.bel.block g hg)).trans d1
   have H:Hid (_):=And.intro hWo hall
   clear hWo hall d1
   by_cases hc0:c=0
   ·subst hc0
    have hM:=made16_no wr
    go_wp2_with (go_at_call 7;refine hM.mono ?_;rintro e w2 ⟨m,rfl,b2⟩)
    go_roundw
    case rel=>exact⟨i+1,by omega,by omega,by go_num,E,t,H.out.1.below b2,H.out.2⟩
    case measure=>simp[natU] <;> omega
   ·have hM:=made16 c hc0 hcl wr
    go_wp2_with fail
    refine hM.mono ?_
    rintro e w2 ⟨L,rfl,h2⟩
    obtain⟨ln,lx,lp,T⟩:=h2.out
    obtain⟨t2,A2,z0,z1,z2,es2,⟨U,zd⟩,⟨V,zr⟩⟩:=H.out.1.two T
    obtain⟨Vm,em⟩:=H.out.1.mx
    obtain⟨v1,v2,er⟩:=H.out.1.rm
    obtain⟨va,vm,vr,ew⟩:=H.out.1.wd
    have cd:=(A2.dv zd).code
    rw[show (L.dr (dnew M0)).P.c=c by show L.P.c=c;rw[lp];rfl]at cd
    have Q1:=madd_any b L.d c (prts E) 0 Vm w2 (A2.mx (z0.trans em)) hcl cd.1 cd.2.1 (by rw[prts_len];have:=H.out.1.le;omega)
    have x0:w2.cell? ⟨x,0,none⟩=some (.pointer (some ⟨b,0,none⟩)):=cell_of_row w2 x 0 _ _ _ (A2.get (z2.trans ew)).blk
    by_cases hE:addE (prts E) c=0
    ·obtain⟨hnf,h8,hL⟩:=addE_ok (d:=L.d) (k:=w2.heap.size) hE
     rw[hE,hL]at Q1
     have HA2:Hid (_):=And.intro A2 (And.intro z1 (And.intro z2 (And.intro es2 (And.intro zd (And.intro zr (And.intro z0 (And.intro em (And.intro er ew))))))))
     have HP:Hid (L.n=16∧L.mx=99∧L.P=Pc c∧c≠0∧c<4294967296):=⟨ln,lx,lp,hc0,hcl⟩
     have HF:Hid (_):=And.intro hnf h8
     clear hM h2 T A2 z0 z1 z2 es2 zd zr em er ew cd hE hL ln lx lp hnf
     go_wp2_with fail
     refine Q1.mono ?_
     rintro e w3 ⟨rfl,h3⟩
     obtain⟨V3,o3,m3,hV3⟩:=h3.out
     obtain⟨A2,z1,z2,es2,zd,zr,z0,em,er,ew⟩:=HA2.out
     have A3:=A2.put0 (z0.trans em) o3 m3 (fun k hk=>(hV3 k hk).imp id (fun e=>by omega))
     have f1:putT t2 0 (mxT b (prts E ++ [⟨c,L.d,w2.heap.size,0⟩]) 0 V3) 1=rmT r v1 v2 (E.map (·.L.e)) (E.map (·.n)) 0:=by rw[putT_ne _ _ (by omega)];exact z1.trans er
     have f2:putT t2 0 (mxT b (prts E ++ [⟨c,L.d,w2.heap.size,0⟩]) 0 V3) 2=wdT x b r va vm vr (E.map (·.L.d)) (E.map (·.L.m)) (E.map (·.L.e)):=by rw[putT_ne _ _ (by omega)];exact z2.trans ew
     have f4:putT t2 0 (mxT b (prts E ++ [⟨c,L.d,w2.heap.size,0⟩]) 0 V3) (11+2*E.length)=rwT (L.rr (dnew M0)) V:=by rw[putT_ne _ _ (by omega)];exact zr
     have f3:putT t2 0 (mxT b (prts E ++ [⟨c,L.d,w2.heap.size,0⟩]) 0 V3) (10+2*E.length)=dvT (L.dr (dnew M0)) U:=by rw[putT_ne _ _ (by omega)];exact zd
     have es3:=es2.put 0 (mxT b (prts E ++ [⟨c,L.d,w2.heap.size,0⟩]) 0 V3) (by omega)
     have ce:=(A3.rw f4).code
     rw[show (L.rr (dnew M0)).P.c=c by show L.P.c=c;rw[HP.out.2.2.1];rfl]at ce
     have Q2:=radd_ok r v1 v2 _ _ 0 (cdE E) L.e c w3 (A3.get f1) (A3.codesE es3) ce HF.out.1 (by simpa using HF.out.2) (by have:=HF.out.2;simp;omega)
     have x1:w3.cell? ⟨x,1,none⟩=some (.pointer (some ⟨r,0,none⟩)):=cell_of_row w3 x 1 _ _ _ (A3.get f2).blk
     have g0:putT t2 0 (mxT b (prts E ++ [⟨c,L.d,w2.heap.size,0⟩]) 0 V3) 0=mxT b (prts E ++ [⟨c,L.d,w2.heap.size,0⟩]) 0 V3:=putT_same _ _ _
     generalize putT t2 0 (mxT b (prts E ++ [⟨c,L.d,w2.heap.size,0⟩]) 0 V3)=t3 at *
     generalize hk2:w2.heap.size=kk at *
     have HA3:Hid (_):=And.intro A3 (And.intro f1 (And.intro f2 (And.intro f3 (And.intro f4 (And.intro es3 g0)))))
     clear Q1 h3 o3 m3 hV3 A2 z1 z2 es2 zd zr z0 em er ew HA2 A3 f1 f2 f3 f4 es3 ce g0 x0 hk2
     go_wp2_with fail
     refine Q2.mono ?_
     rintro e w4 ⟨rfl,h4⟩
     obtain⟨v1',v2',g4,m4⟩:=h4.out
     obtain⟨A3,f1,f2,f3,f4,es3,g0⟩:=HA3.out
     have A4:=A3.step 1 (rmT r v1' v2' (E.map (·.L.e) ++ [L.e]) (E.map (·.n) ++ [0]) 0) (U:=RMU r v1 v2) (by rw[f1];rfl) g4 m4 (fun k hk=>m4.lt k hk)
     have q2:putT t3 1 (rmT r v1' v2' (E.map (·.L.e) ++ [L.e]) (E.map (·.n) ++ [0]) 0) 2=wdT x b r va vm vr (E.map (·.L.d)) (E.map (·.L.m)) (E.map (·.L.e)):=by rw[putT_ne _ _ (by omega)];exact f2
     have D4:WD w4 x b r va vm vr (E.map (·.L.d)) (E.map (·.L.m)) (E.map (·.L.e)):=A4.get q2
     obtain⟨n1,en1⟩:∃ n,n=(E.map (·.L.d)).length:=⟨_,rfl⟩
     obtain⟨n2,en2⟩:∃ n,n=(E.map (·.L.m)).length:=⟨_,rfl⟩
     obtain⟨n3,en3⟩:∃ n,n=(E.map (·.L.e)).length:=⟨_,rfl⟩
     have l1:n1<8:=by rw[en1];simpa using HF.out.2
     have l2:n2<8:=by rw[en2];simpa using HF.out.2
     have l3:n3<8:=by rw[en3];simpa using HF.out.2
     obtain⟨aa,ca,rfl,_⟩:=own_ptr D4.ra
     obtain⟨am,cm,rfl,_⟩:=own_ptr D4.rm
     obtain⟨ar,cr,rfl,_⟩:=own_ptr D4.rr
     rw[← en1,← en2,← en3]at D4
     have r4:=D4.ra.alloc (.cells #[.pointer (some ⟨L.d,0,none⟩)] 35)
     rw[← en1]at r4
     have x2:w4.cell? ⟨x,2,none⟩=some (.slice aa n1 ca):=cell_of_row w4 x 2 _ _ _ D4.blk
     have HD4:Hid (_):=D4
     have HN:Hid (n1=(E.map (·.L.d)).length∧n2=(E.map (·.L.m)).length∧n3=(E.map (·.L.e)).length):=⟨en1,en2,en3⟩
     have HA4:Hid (_):=And.intro A4 (And.intro f3 (And.intro f4 (And.intro es3 (And.intro g0 q2))))
     clear Q2 h4 g4 m4 A3 f1 f2 f3 f4 es3 g0 A4 q2 D4 HA3 en1 en2 en3 x1
     go_wp2_with (at_builtin;refine wpList_append_own_at _ rfl (.tmp 63) (.tmp 65) 30 rfl 0 35 i0 (.pointer none) 1 8 Tryz.underlying30 hi hz0 hz1 hz2 rfl (by decide) (.slice aa n1 ca) n1 ((E.map (·.L.d)).map ptV) rfl r4 ⟨w4.heap.size,0,none⟩ 1 1 [ptV L.d] rfl rfl (one_cellG (heap_alloc_new w4 _)) (by intro u hu;simp at hu;subst hu;rfl) (by unfold maxLen;omega) (by omega) (Nat.zero_le _) ?_)
     intro v5 w5 o5 g5 _ b5
     obtain⟨x5,y5,rfl,_,_⟩:=own_some1M o5
     have D5:=HD4.out.app_a L.d (by rw[← HN.out.1,List.map_map];exact o5) g5 b5
     have k1:w5.cell? ⟨x,2,none⟩=some (.slice aa n1 ca):=cell_of_row w5 x 2 _ _ _ D5.1
     have k2:w5.frozen? ⟨x,2,none⟩=false:=frozen_of_row w5 x 2 _ _ D5.1
     have r5:=D5.2.1.rm.alloc (.cells #[.pointer (some ⟨L.m,0,none⟩)] 36)
     rw[← HN.out.2.1]at r5
     have x3:(w5.setCell ⟨x,2,none⟩ (.slice (some ⟨x5,0,none⟩) (n1+1) y5)).cell? ⟨x,3,none⟩=some (.slice am n2 cm):=cell_of_row _ x 3 _ _ _ D5.2.1.blk
     have HD5:Hid (_):=D5.2
     clear D5 o5 g5 b5 r4
     generalize hw5:w5.setCell ⟨x,2,none⟩ (.slice (some ⟨x5,0,none⟩) (n1+1) y5)=W5 at *
     go_wp2_with (at_builtin;refine wpList_append_own_at _ rfl (.tmp 73) (.tmp 75) 31 rfl 0 36 j0 (.pointer none) 1 8 Tryz.underlying31 hj hy0 hy1 hy2 rfl (by decide) (.slice am n2 cm) n2 ((E.map (·.L.m)).map ptV) rfl r5 ⟨W5.heap.size,0,none⟩ 1 1 [ptV L.m] rfl rfl (one_cellG (heap_alloc_new W5 _)) (by intro u hu;simp at hu;subst hu;rfl) (by unfold maxLen;omega) (by omega) (Nat.zero_le _) ?_)
     intro v6 w6 o6 g6 _ b6
     obtain⟨x6,y6,rfl,_,_⟩:=own_some1M o6
     have D6:=HD5.out.1.app_m L.m (by rw[← HN.out.2.1,List.map_map];exact o6) g6 b6
     have k3:w6.cell? ⟨x,3,none⟩=some (.slice am n2 cm):=cell_of_row w6 x 3 _ _ _ D6.1
     have k4:w6.frozen? ⟨x,3,none⟩=false:=frozen_of_row w6 x 3 _ _ D6.1
     have r6:=D6.2.1.rr.alloc (.cells #[.pointer (some ⟨L.e,0,none⟩)] 37)
     rw[← HN.out.2.2]at r6
     have x4:(w6.setCell ⟨x,3,none⟩ (.slice (some ⟨x6,0,none⟩) (n2+1) y6)).cell? ⟨x,4,none⟩=some (.slice ar n3 cr):=cell_of_row _ x 4 _ _ _ D6.2.1.blk
     have HD6:Hid (_):=D6.2
     clear D6 o6 g6 b6 r5
     generalize hw6:w6.setCell ⟨x,3,none⟩ (.slice (some ⟨x6,0,none⟩) (n2+1) y6)=W6 at *
     go_wp2_with (at_builtin;refine wpList_append_own_at _ rfl (.tmp 83) (.tmp 85) 32 rfl 0 37 k0 (.pointer none) 1 8 Tryz.underlying32 hk hx0 hx1 hx2 rfl (by decide) (.slice ar n3 cr) n3 ((E.map (·.L.e)).map ptV) rfl r6 ⟨W6.heap.size,0,none⟩ 1 1 [ptV L.e] rfl rfl (one_cellG (heap_alloc_new W6 _)) (by intro u hu;simp at hu;subst hu;rfl) (by unfold maxLen;omega) (by omega) (Nat.zero_le _) ?_)
     intro v7 w7 o7 g7 _ b7
     obtain⟨x7,y7,rfl,_,_⟩:=own_some1M o7
     have D7:=HD6.out.1.app_r L.e (by rw[← HN.out.2.2,List.map_map];exact o7) g7 b7
     have k5:w7.cell? ⟨x,4,none⟩=some (.slice ar n3 cr):=cell_of_row w7 x 4 _ _ _ D7.1
     have k6:w7.frozen? ⟨x,4,none⟩=false:=frozen_of_row w7 x 4 _ _ D7.1
     have HD7:Hid (_):=D7.2
     clear D7 o7 g7 b7 r6
     go_wp2_with fail
     go_roundw
     case rel=>
      refine⟨i+1,by omega,by omega,by go_num,?_⟩
      obtain⟨A4,f3,f4,es3,g0,q2⟩:=HA4.out
      have G:=(HD5.out.2.trans HD6.out.2).trans HD7.out.2
      have A7:=A4.step 2 (wdT x b r _ _ _ _ _ _) (U:=WDU x (.slice aa n1 ca) (.slice am n2 cm) (.slice ar n3 cr)) (by rw[q2];simp only[HN.out.1,HN.out.2.1,HN.out.2.2];rfl) G HD7.out.1 (fun k hk=>HD7.out.1.lt k hk)
      have hep:prts (E ++ [(⟨L,dnew M0,0,kk⟩:Ent)])=prts E ++ [⟨c,L.d,kk,0⟩]:=by simp[prts,HP.out.2.2.1,Pc]
      have hW:=H.out.1.grow (L:=L) (s:=dnew M0) (k:=kk) A7 ⟨V3,by rw[putT_ne _ _ (by omega),putT_ne _ _ (by omega),g0,hep]⟩ ⟨_,_,by rw[putT_ne _ _ (by omega),putT_same]⟩ ⟨_,_,_,by rw[putT_same]⟩ ((es3.put _ _ (by omega)).put _ _ (by omega)) ⟨U,by rw[putT_ne _ _ (by omega),putT_ne _ _ (by omega)];exact f3⟩ ⟨V,by rw[putT_ne _ _ (by omega),putT_ne _ _ (by omega)];exact f4⟩ HF.out.2 ⟨HP.out.1,HP.out.2.1,by rw[HP.out.2.2.1];exact HP.out.2.2.2.1,by rw[HP.out.2.2.1];exact HP.out.2.2.2.2,by rw[HP.out.2.2.1];rfl⟩
      refine⟨_,_,hW,fun e he=>?_⟩
      rcases List.mem_append.1 he with he | he
      ·exact H.out.2 e he
      ·simp at he
       subst he
       exact⟨rfl,rfl⟩
     case measure=>simp[natU] <;> omega
    ·-- it is refused
     have hT2:=hE
     have bw:=H.out.1.below (w':=w2) (by obtain⟨_,_,T⟩:=T;exact T.bel)
     have hA3:∀ w3,(∃ V',Off Vm w2 w3∧Mxx w3 b (addL (prts E) c L.d w2.heap.size) 0 V'∧∀ k,k ∈ V'→k ∈ Vm∨k=w2.heap.size)→∃ t',Wo w w3 x b r E 0 t'∧w3.cell? ⟨L.e,0,none⟩=some (.int .u32 (c:Nat)):=by
      rintro w3 ⟨V',o3,m3,hV⟩
      rw[addL_refuse hE]at m3
      refine⟨_,bw.refused em o3 m3 hV,?_⟩
      have A3:=A2.put0 (z0.trans em) o3 m3 (fun k hk=>(hV k hk).imp id (fun e=>by omega))
      have:=(A3.rw (i:=11+2*E.length) (x:=L.rr (dnew M0)) (U:=V) (by rw[putT_ne _ _ (by omega)];exact zr)).code
      rw[show (L.rr (dnew M0)).P.c=c by show L.P.c=c;rw[lp];rfl]at this
      exact this
     have HA3:Hid (_):=hA3
     have hN:=addE_refuse hE
     have HN:Hid (_):=hN
     generalize addE (prts E) c=EE at *
     have hEE:(EE == 0)=false:=by simp[hE]
     clear hM h2 T A2 z0 z1 z2 es2 zd zr em er ew cd bw hA3 hN
     go_wp2_with (first
      | (go_at_call 22;refine Q1.mono ?_;rintro e w3 ⟨rfl,h3⟩;obtain⟨t3,W3,ce⟩:=HA3.out w3 h3.out;obtain⟨v1,v2,er⟩:=W3.rm;obtain⟨va,vm,vr,ew⟩:=W3.wd;have x1:w3.cell? ⟨x,1,none⟩=some (.pointer (some ⟨r,0,none⟩)):=cell_of_row w3 x 1 _ _ _ (W3.al.get ew).blk;have Q2:=radd_no r v1 v2 _ _ 0 (cdE E) L.e c w3 (W3.al.get er) W3.codes ce (by have:=W3.le;simp;omega) EE HN.out)
      | (go_at_call 33;refine Q2.mono ?_;rintro e w4 ⟨rfl,hw⟩;have hw:=hw.symm;subst hw))
     go_roundw
     case rel=>exact⟨i+1,by omega,by omega,by go_num,E,t3,W3,H.out.2⟩
     case measure=>simp[natU] <;> omega
  ·have hno:((i:Int) < (len:Int))=False∨((i:Int) < (len:Int))=True∧((i:Int)<12)=False:=by
    by_cases h1:i<len
    ·exact .inr ⟨by simp;omega,by simp;omega⟩
    ·exact .inl (by simp;omega)
   rcases hno with h1 | ⟨h1,h2⟩
   all_goals
    go_wp2_with fail
    go_ret2
    exact⟨x,rfl,b,r,HW.out⟩
def bxT (q:Nat) (O:Array Value):Thing:=⟨[q],fun w=>w.heap[q]?=some (.cells O 58 (0,0)),fun _ _ _ h o hl=>(o.block q (Array.getElem?_eq_some_iff.1 h).1 (hl q (by simp))).trans h⟩
section
variable {w0 w w':World} {t0:Nat→Thing} {j:Nat} {D R:Dr}
end
section
variable {w0 w w':World} {x b r lost:Nat} {E:List Ent} {t:Nat→Thing}
theorem row_at {w:World} {B:Nat} {e:TypeId} {v:Value} {ds:List Nat} (h:w.ownsRow B e 1 v ds.length (ds.map ptV)) {j d:Nat} (hd:ds[j]?=some d):∃ g cap,v=.slice (some ⟨g,0,none⟩) ds.length cap∧w.cell? ⟨g,j,none⟩=some (.pointer (some ⟨d,0,none⟩)):=by
 obtain⟨hj,hdj⟩:=List.getElem?_eq_some_iff.1 hd
 obtain⟨a,cap,rfl,hc⟩:=own_ptr h
 obtain⟨g,rfl,_,hx⟩:=hc j hj
 rw[hdj]at hx
 exact⟨g,cap,rfl,hx⟩
end
end Go.Proofs.YthbogkaoidbpgaaGreat
