/- Part 49: contracts that the proof rests on. -/
import Derived.Test.YtgaeofgdiaknpaaGreatPkR47
set_option maxHeartbeats 64000000
namespace Go.Proofs.YtgaeofgdiaknpaaGreat
set_option maxRecDepth 100000
open Go.RowKit Go.Maps Go.Sort
set_option linter.unusedVariables false
theorem pnet1 (w:World):Calls Tryz.prog 8 #[.int .i64 1,.int .u32 9] w fun r w'=>∃ g0 c0 g1 c1,r=.returned (.agg #[.slice (some ⟨g0,0,none⟩) 2 c0,.slice (some ⟨g1,0,none⟩) 2 c1,.int .u32 50])∧Hid (2≤c0∧2≤c1∧PqRow w' (some ⟨g0,0,none⟩) 2 pgP∧PqRow w' (some ⟨g1,0,none⟩) 2 pgP∧Below w.heap.size w w'):=by
 have hP:=fun wx=>ppairO1 wx
 have kx:=heap_alloc_new w (.cells #[.slice none 0 0,.slice none 0 0,.int .u32 0] 26)
 have bx:=belY (Below.refl _ w) (.cells #[.slice none 0 0,.slice none 0 0,.int .u32 0] 26)
 have zx:=sz1 w (.cells #[.slice none 0 0,.slice none 0 0,.int .u32 0] 26)
 go_enter Tryz.func8,Tryz.ntmps8
 go_wp2_with fail
 refine (hP _).mono ?_
 rintro r w1 ⟨a0,c0,a1,c1,rfl,H1⟩
 obtain⟨g0,rfl,hg0⟩:=own_someY H1.out.1 (by decide)
 obtain⟨g1,rfl,hg1⟩:=own_someY H1.out.2.1 (by decide)
 clear hP
 have b1:=H1.out.2.2.2
 have kx1:=(b1.block w.heap.size (by rw[zx];omega)).trans kx
 have b2:Below w1.heap.size w1 (w1.alloc (.cells #[.slice (some ⟨g0,0,none⟩) 2 c0,.slice (some ⟨g1,0,none⟩) 2 c1,.int .u32 50] 26)):=belY (Below.refl _ _) _
 have ky:=heap_alloc_new w1 (.cells #[.slice (some ⟨g0,0,none⟩) 2 c0,.slice (some ⟨g1,0,none⟩) 2 c1,.int .u32 50] 26)
 have lx1:w.heap.size<w1.heap.size:=(Array.getElem?_eq_some_iff.1 kx1).1
 have kx2:=(b2.block w.heap.size lx1).trans kx1
 have o0:=own_belowP H1.out.1 b2
 have o1:=own_belowP H1.out.2.1 b2
 have hg01:g0≠g1:=fun e=>H1.out.2.2.1 g0 rfl (by rw[e];rfl)
 obtain⟨w2,hw2⟩:∃ z,(w1.alloc (.cells #[.slice (some ⟨g0,0,none⟩) 2 c0,.slice (some ⟨g1,0,none⟩) 2 c1,.int .u32 50] 26))=z:=⟨_,rfl⟩
 rw[hw2]at ky kx2 o0 o1 b2
 obtain⟨cur0,k0⟩:=own_type o0 rfl
 obtain⟨cur1,k1⟩:=own_type o1 rfl
 have own_at0:∀ j u,(flQ 2 pgP)[j]?=some u→cur0[j]?=some u:=fun j u hu=>(cell_of_row w2 g0 j _ _ _ k0).symm.trans (own_cellY o0 j u hu)
 have own_at1:∀ j u,(flQ 2 pgP)[j]?=some u→cur1[j]?=some u:=fun j u hu=>(cell_of_row w2 g1 j _ _ _ k1).symm.trans (own_cellY o1 j u hu)
 have s00:w2.setCell ⟨g0,4,none⟩ (.int .u32 9)=w2:=setCell_self k0 (own_at0 (4) _ rfl)
 have e00:w2.cell? ⟨g0,4,none⟩=some (.int .u32 9):=(cell_of_row w2 g0 4 _ _ _ k0).trans (own_at0 (4) _ rfl)
 have z00:w2.frozen? ⟨g0,4,none⟩=false:=frozen_of_row w2 g0 4 _ _ k0
 have s01:w2.setCell ⟨g0,9,none⟩ (.int .u32 9)=w2:=setCell_self k0 (own_at0 (9) _ rfl)
 have e01:w2.cell? ⟨g0,9,none⟩=some (.int .u32 9):=(cell_of_row w2 g0 9 _ _ _ k0).trans (own_at0 (9) _ rfl)
 have z01:w2.frozen? ⟨g0,9,none⟩=false:=frozen_of_row w2 g0 9 _ _ k0
 have s10:w2.setCell ⟨g1,4,none⟩ (.int .u32 9)=w2:=setCell_self k1 (own_at1 (4) _ rfl)
 have e10:w2.cell? ⟨g1,4,none⟩=some (.int .u32 9):=(cell_of_row w2 g1 4 _ _ _ k1).trans (own_at1 (4) _ rfl)
 have z10:w2.frozen? ⟨g1,4,none⟩=false:=frozen_of_row w2 g1 4 _ _ k1
 have s11:w2.setCell ⟨g1,9,none⟩ (.int .u32 9)=w2:=setCell_self k1 (own_at1 (9) _ rfl)
 have e11:w2.cell? ⟨g1,9,none⟩=some (.int .u32 9):=(cell_of_row w2 g1 9 _ _ _ k1).trans (own_at1 (9) _ rfl)
 have z11:w2.frozen? ⟨g1,9,none⟩=false:=frozen_of_row w2 g1 9 _ _ k1
 have y0:=cell_of_row w2 _ 0 _ _ _ ky
 have y1:=cell_of_row w2 _ 1 _ _ _ ky
 have y2:=cell_of_row w2 _ 2 _ _ _ ky
 have x0:=cell_of_row w2 _ 0 _ _ _ kx2
 have x1:=cell_of_row w2 _ 1 _ _ _ kx2
 have x2:=cell_of_row w2 _ 2 _ _ _ kx2
 have xz:=fun k=>frozen_of_row w2 _ k _ _ kx2
 have HF:Hid (_):=And.intro o0 (And.intro o1 (And.intro b2 (And.intro b1 (And.intro hg0 hg1))))
 have HE:Hid ((w1.alloc (.cells #[.slice (some ⟨g0,0,none⟩) 2 c0,.slice (some ⟨g1,0,none⟩) 2 c1,.int .u32 50] 26))=w2):=hw2
 have HX:Hid (_):=And.intro bx zx
 clear ky kx2 o0 o1 b2 b1 k0 k1 own_at0 own_at1 kx kx1 hw2 H1 bx
 go_upto_region 2 with fail
 rw[HE.out]
 go_wp2_with fail
 refine wp_loop_rounds 3 ?_
 rw[rounds_succ]
 go_wp2_with fail
 rw[rounds_succ]
 go_wp2_with fail
 rw[rounds_succ]
 go_wp2_with fail
 refine bodyPost_ret (v:=.agg #[.slice (some ⟨g0,0,none⟩) 2 c0,.slice (some ⟨g1,0,none⟩) 2 c1,.int .u32 50]) (by simp[results,Tryz.results8,go_sem,x0,x1,x2]) rfl ?_
 have o:Off [w.heap.size] w2 (((w2.setCell ⟨w.heap.size,0,none⟩ (.slice (some ⟨g0,0,none⟩) 2 c0)).setCell ⟨w.heap.size,1,none⟩ (.slice (some ⟨g1,0,none⟩) 2 c1)).setCell ⟨w.heap.size,2,none⟩ (.int .u32 50)):=((Off.setCell _ _ _ _).trans (Off.setCell _ _ _ _)).trans (Off.setCell _ _ _ _)
 obtain⟨o0,o1,b2,b1,hg0,hg1⟩:=HF.out
 obtain⟨bx,zx⟩:=HX.out
 have bz:Below w.heap.size w w2:=(bx.trans (b1.mono bx.size)).trans (b2.mono (Nat.le_trans bx.size b1.size))
 exact⟨g0,c0,g1,c1,rfl,own_capP o0 (by decide),own_capP o1 (by decide),PqRow.ofOwn (own_keepP o0 (fun g hg=>o.block g (o0.lt g hg).2 (by have:=(o0.lt g hg).1;rw[zx]at this;simp;omega))),PqRow.ofOwn (own_keepP o1 (fun g hg=>o.block g (o1.lt g hg).2 (by have:=(o1.lt g hg).1;rw[zx]at this;simp;omega))),o.below bz (fun k hk=>by simp at hk;omega) bz.size⟩
open Go.RowKit Go.Maps
def Cn (st:Nat) (sm:Bool) (c:Nat):Prop:=(st=2→1≤c)∧(st=3→2≤c)∧(st=4→3≤c)∧(sm=true→4≤c)
def Wkn (st st':Nat) (sm sm':Bool):Prop:=(st'=st∨st'=1∨5≤st')∧(sm'=true→sm=true)
theorem Wkn.refl (st:Nat) (sm:Bool):Wkn st st sm sm:=⟨.inl rfl,fun h=>h⟩
theorem Wkn.trans {a b c:Nat} {x y z:Bool} (h:Wkn a b x y) (k:Wkn b c y z):Wkn a c x z:=by
 refine⟨?_,fun e=>h.2 (k.2 e)⟩
 rcases k.1 with q | q | q
 ·rw[q];exact h.1
 ·exact .inr (.inl q)
 ·exact .inr (.inr q)
theorem Cn.weak {st st' c:Nat} {sm sm':Bool} (h:Cn st sm c) (k:Wkn st st' sm sm'):Cn st' sm' c:=by
 obtain⟨h1,h2,h3,h4⟩:=h
 obtain⟨k1,k2⟩:=k
 refine⟨fun e=>?_,fun e=>?_,fun e=>?_,fun e=>h4 (k2 e)⟩
 ·rcases k1 with q | q | q
  ·exact h1 (by omega)
  ·omega
  ·omega
 ·rcases k1 with q | q | q
  ·exact h2 (by omega)
  ·omega
  ·omega
 ·rcases k1 with q | q | q
  ·exact h3 (by omega)
  ·omega
  ·omega
theorem Cn.more {st c:Nat} {sm:Bool} (h:Cn st sm c):Cn st sm (c+1):=by
 obtain⟨h1,h2,h3,h4⟩:=h
 exact⟨fun e=>by have:=h1 e;omega,fun e=>by have:=h2 e;omega,fun e=>by have:=h3 e;omega,fun e=>by have:=h4 e;omega⟩
theorem Cn.zero {st:Nat} (h:st=1∨5≤st) (c:Nat):Cn st false c:=⟨fun e=>by omega,fun e=>by omega,fun e=>by omega,fun e=>by cases e⟩
theorem sm_trip (v:Vs) (x:Int):(vtrip v x).sm=true→v.sm=true:=by
 unfold vtrip
 split
 ·exact fun h=>h
 ·intro h;cases h
theorem sm_run (v:Vs) (o:Bool):(vrun v o).sm=true→v.sm=true:=by
 unfold vrun
 split
 ·exact fun h=>h
 ·intro h;cases h
theorem sm_ack (v:Vs):(vack v).sm=v.sm:=by
 unfold vack
 split <;> rfl
theorem von_sm {v:Vs} (h:von v=true):v.sm=true:=by
 unfold von at h
 simp at h
 exact h.2.2
section
variable {P:Pm}
theorem wk_hlatch (s:Sh) (x:Int):Wkn s.st (hlatch s x).st s.v.sm (hlatch s x).v.sm:=⟨.inl (hlatch_flds s x).1,by rw[hlatch_v];exact sm_trip _ _⟩
theorem wk_hexh (s:Sh):Wkn s.st (hexh s).st s.v.sm (hexh s).v.sm:=⟨.inr (.inr (by show 5≤5;omega)),fun e=>by
 have e1:(vrun (hlatch s 80).v false).sm=true:=e
 exact (wk_hlatch s 80).2 (sm_run _ _ e1)⟩
theorem wk_hgive (s:Sh):Wkn s.st (hgive s).st s.v.sm (hgive s).v.sm:=⟨.inr (.inl rfl),fun e=>sm_run _ _ e⟩
theorem wk_hmiss (s:Sh):Wkn s.st (hmiss s).st s.v.sm (hmiss s).v.sm:=by
 unfold hmiss
 split
 ·exact Wkn.refl _ _
 ·split
  ·exact Wkn.refl _ _
  ·split
   ·exact (wk_hlatch { s with ms:=s.ms+1 } 131).trans (wk_hgive _)
   ·exact wk_hgive { s with ms:=s.ms+1 }
theorem wk_hnext (s:Sh):Wkn s.st (hnext P s).1.st s.v.sm (hnext P s).1.v.sm:=by
 unfold hnext
 split
 ·exact Wkn.refl _ _
 ·split
  ·exact Wkn.refl _ _
  ·split
   ·exact Wkn.refl _ _
   ·split
    ·exact wk_hexh { s with sn:=s.sn+1 }
    ·exact Wkn.refl _ _
theorem wk_hsend (s:Sh):Wkn s.st (hsendS P s).st s.v.sm (hsendS P s).v.sm:=by
 unfold hsendS
 split
 ·exact Wkn.refl _ _
 ·exact (wk_hmiss s).trans (wk_hnext (P:=P) (hmiss s))
theorem wk_hwrite (s:Sh) (l:Nat) (b:Nat→Nat) (h:Bool):Wkn s.st (hwriteS P s l b h).st s.v.sm (hwriteS P s l b h).v.sm:=by
 unfold hwriteS
 split <;> exact Wkn.refl _ _
theorem wk_htick (s:Sh) (k:Int):Wkn s.st (htickS P s k).st s.v.sm (htickS P s k).v.sm:=by
 unfold htickS
 split
 ·exact Wkn.refl _ _
 ·split
  ·exact wk_hlatch { s with dc:=tk P.t s.dc k.toNat } 100
  ·exact Wkn.refl _ _
theorem wk_hack (s:Sh):Wkn s.st (hackS s).st s.v.sm (hackS s).v.sm:=⟨.inl rfl,by show (vack s.v).sm=true→_;rw[sm_ack];exact fun h=>h⟩
theorem cn_hrecv {s:Sh} {c:Nat} (h:Cn s.st s.v.sm c) (len:Nat) (bs:Nat→Nat):Cn (hrecvS P s len bs).st (hrecvS P s len bs).v.sm (if hrecvE P s len bs=0 then c+1 else c):=by
 unfold hrecvS
 by_cases he:hrecvE P s len bs=0
 ·rw[if_neg (fun q=>q he),if_pos he]
  have hr:hrefE P s (bs 0) (w4v bs 1) (w4v bs 5) (w4v bs 9) (len-19) (fun i=>bs (15+i))=0:=by
   unfold hrecvE at he
   split at he
   ·next q=>exact absurd he q
   ·exact he
  have hk:(s.st=1∧bs 0=17)∨(s.st=2∧bs 0=18)∨(s.st=3∧bs 0=19)∨(s.st=4∧(bs 0=20∨bs 0=21)):=by
   unfold hrefE at hr
   split at hr
   ·cases hr
   ·split at hr
    ·cases hr
    ·split at hr
     ·next q1=>
      unfold hoffE at hr
      split at hr
      ·cases hr
      ·next q2=>exact .inl ⟨q1,by omega⟩
     ·split at hr
      ·cases hr
      ·next q1 q2=>
       have q3:hawaits P s (bs 0) (w4v bs 9) (len-19)=true:=by
        cases e:hawaits P s (bs 0) (w4v bs 9) (len-19)
        ·exact absurd (.inr e) q2
        ·rfl
       unfold hawaits at q3
       have q4:=of_decide_eq_true q3
       rcases q4 with ⟨a,b⟩ | ⟨a,b⟩ | ⟨a,b,_⟩ | ⟨a,b,_⟩
       ·exact .inr (.inl ⟨b,a⟩)
       ·exact .inr (.inr (.inl ⟨b,a⟩))
       ·exact .inr (.inr (.inr ⟨b.1.1,.inl a⟩))
       ·exact .inr (.inr (.inr ⟨b.1,.inr a⟩))
  obtain⟨h1,h2,h3,h4⟩:=h
  unfold htake
  rcases hk with ⟨a,b⟩ | ⟨a,b⟩ | ⟨a,b⟩ | ⟨a,b⟩
  ·rw[if_pos b]
   exact⟨fun e=>by omega,fun e=>absurd e (by show ¬ (2=3);decide),fun e=>absurd e (by show ¬ (2=4);decide),fun e=>by have:=h4 e;omega⟩
  ·rw[if_neg (by omega),if_pos b]
   exact⟨fun e=>by omega,fun e=>by have:=h1 a;omega,fun e=>absurd e (by show ¬ (3=4);decide),fun e=>by have:=h4 e;omega⟩
  ·rw[if_neg (by omega),if_neg (by omega),if_pos b]
   exact⟨fun e=>by omega,fun e=>by have:=h2 a;omega,fun e=>by have:=h2 a;omega,fun e=>by
    have e1:(vrun s.v true).sm=true:=e
    have:=h4 (sm_run _ _ e1)
    omega⟩
  ·have h3:=h3 a
   rcases b with b | b
   ·rw[if_neg (by omega),if_neg (by omega),if_neg (by omega),if_pos b]
    exact⟨fun e=>by omega,fun e=>by omega,fun e=>by omega,fun e=>by omega⟩
   ·rw[if_neg (by omega),if_neg (by omega),if_neg (by omega),if_neg (by omega),if_pos b]
    exact⟨fun e=>by omega,fun e=>by omega,fun e=>by omega,fun e=>by omega⟩
 ·rw[if_pos he,if_neg he]
  exact h
theorem wk_dlatch (s:Sd) (x:Int):Wkn s.st (dlatch s x).st s.v.sm (dlatch s x).v.sm:=⟨.inl (dlatch_flds s x).1,by rw[dlatch_v];exact sm_trip _ _⟩
theorem wk_dleave (s:Sd) (k:Nat) (hk:k=1∨5≤k):Wkn s.st (dleave s k).st s.v.sm (dleave s k).v.sm:=⟨by rcases hk with q | q;exact .inr (.inl q);exact .inr (.inr q),fun e=>sm_run _ _ e⟩
theorem wk_dodd (s:Sd):Wkn s.st (dodd s).st s.v.sm (dodd s).v.sm:=by
 unfold dodd
 split
 ·split
  ·exact Wkn.refl _ _
  ·split
   ·exact (wk_dlatch { s with od:=s.od+1 } 131).trans (wk_dleave _ 1 (.inl rfl))
   ·exact wk_dleave { s with od:=s.od+1 } 1 (.inl rfl)
 ·exact Wkn.refl _ _
theorem wk_dwrite (s:Sd) (l:Nat) (b:Nat→Nat) (h:Bool):Wkn s.st (dwriteS P s l b h).st s.v.sm (dwriteS P s l b h).v.sm:=by
 unfold dwriteS
 split
 ·exact Wkn.refl _ _
 ·split <;> exact Wkn.refl _ _
theorem wk_dtick (s:Sd) (k:Int):Wkn s.st (dtickS P s k).st s.v.sm (dtickS P s k).v.sm:=by
 unfold dtickS
 split
 ·exact Wkn.refl _ _
 ·split
  ·exact Wkn.refl _ _
  ·split
   ·exact wk_dlatch { s with dc:=tk P.t s.dc k.toNat } 100
   ·exact Wkn.refl _ _
theorem wk_dack (s:Sd):Wkn s.st (dackS s).st s.v.sm (dackS s).v.sm:=by
 unfold dackS
 split
 ·exact Wkn.refl _ _
 ·exact⟨.inl rfl,by show (vack s.v).sm=true→_;rw[sm_ack];exact fun h=>h⟩
def Cr (R:Rs) (c:Nat):Prop:=Cn R.s.st R.s.v.sm (if R.e=0 then c+1 else c)
theorem cr_weak {s:Sd} {c:Nat} (h:Cn s.st s.v.sm c) {s':Sd} (k:Wkn s.st s'.st s.v.sm s'.v.sm) (f:Fm) (e:Int):Cr ⟨s',f,e⟩ c:=by
 unfold Cr
 dsimp only
 split
 ·exact (h.weak k).more
 ·exact h.weak k
theorem cr_begin {mx n:Nat} {s:Sd} {c:Nat} (h:Cn s.st s.v.sm c):Cr (dbegin P mx n s) c:=by
 unfold dbegin
 generalize nx mx n s.ms.bs false s.ms=X
 split
 ·exact cr_weak h ((wk_dlatch { s with ms:=X.s } 80).trans (wk_dleave _ 5 (.inr (Nat.le_refl _)))) _ _
 ·split
  ·next q1 q2=>
   unfold Cr
   exact Cn.zero (.inr (by show 5≤6;omega)) _
  ·unfold Cr
   rw[if_pos rfl]
   obtain⟨h1,h2,h3,h4⟩:=h
   exact⟨fun e=>by omega,fun e=>absurd e (by show ¬ (2=3);decide),fun e=>absurd e (by show ¬ (2=4);decide),fun e=>by
    have e1:(vrun s.v false).sm=true:=e
    have:=h4 (sm_run _ _ e1)
    omega⟩
theorem cr_take {mx n:Nat} {s:Sd} {c:Nat} (h:Cn s.st s.v.sm c) (k ss num fl len:Nat) (bs:Nat→Nat):Cr (dtake P mx n s k ss num fl len bs) c:=by
 have r:∀ x:Int,Cr (drefuse P s x) c:=fun x=>cr_weak h (wk_dodd s) _ _
 unfold dtake
 split
 ·split
  ·unfold dwish
   split
   ·exact cr_weak h (wk_dodd s) _ _
   ·split
    ·exact cr_weak h (wk_dodd s) _ _
    ·exact cr_begin (h.weak (wk_dodd s))
  ·exact r _
 ·split
  ·next q=>
   split
   ·unfold Cr
    rw[if_pos rfl]
    show Cn (dechoS s).st (dechoS s).v.sm (c+1)
    unfold dechoS
    split
    ·next q2=>
     obtain⟨h1,h2,h3,h4⟩:=h
     exact⟨fun e=>absurd e (by show ¬ (3=2);decide),fun e=>by have:=h1 q2;omega,fun e=>absurd e (by show ¬ (3=4);decide),fun e=>by have:=h4 e;omega⟩
    ·exact h.more
   ·exact r _
  ·split
   ·unfold Cr
    rw[if_pos rfl]
    show Cn (dstartS s).st (dstartS s).v.sm (c+1)
    unfold dstartS
    split
    ·next q2=>
     obtain⟨h1,h2,h3,h4⟩:=h
     exact⟨fun e=>absurd e (by show ¬ (4=2);decide),fun e=>absurd e (by show ¬ (4=3);decide),fun e=>by have:=h2 q2;omega,fun e=>by
      have e1:(vrun s.v true).sm=true:=e
      have:=h4 (sm_run _ _ e1)
      omega⟩
    ·exact h.more
   ·split
    ·next q=>
     unfold Cr
     rw[if_pos rfl]
     have h3:=h.2.2.1 q.2.1.2.1
     exact⟨fun e=>by omega,fun e=>by omega,fun e=>by omega,fun e=>by omega⟩
    ·split
     ·next q=>
      unfold Cr
      rw[if_pos rfl]
      have h3:=h.2.2.1 q.2.1.2.1
      exact⟨fun e=>by omega,fun e=>by omega,fun e=>by omega,fun e=>by omega⟩
     ·exact r _
theorem cr_recv {mx n:Nat} {s:Sd} {c:Nat} (h:Cn s.st s.v.sm c) (len:Nat) (bs:Nat→Nat):Cr (drecv P mx n s len bs) c:=by
 have hh:Cr (dhear P mx n s len bs) c:=by
  unfold dhear
  split
  ·exact cr_weak h (Wkn.refl _ _) _ _
  ·split
   ·exact cr_weak h (Wkn.refl _ _) _ _
   ·split
    ·exact cr_weak h (Wkn.refl _ _) _ _
    ·exact cr_take h _ _ _ _ _ _
 unfold drecv
 split
 ·exact cr_weak h (Wkn.refl _ _) _ _
 ·split
  ·exact hh
  ·exact hh
end
def cntT (S:Ws) (m:Mv) (T:Nat→Nat):Nat→Nat:=
 if m.k=7 then putF T (2*m.c.toNat+m.s.toNat-1) 0
 else if (m.k=3∨m.k=4)∧S.actEF m=0 then putF T (2*m.c.toNat+m.s.toNat-1) (T (2*m.c.toNat+m.s.toNat-1)+1) else T
def Jc (S:Ws) (T:Nat→Nat):Prop:=∀ j,j<2→Cn (S.hs j).st (S.hs j).v.sm (T (2*j))∧Cn (S.ds j).st (S.ds j).v.sm (T (2*j+1))
theorem Jc.next {S:Ws} {T:Nat→Nat} (h:Jc S T) (I:S.In) (K:S.Kn) {m:Mv} (hb:S.bad m=0):Jc (S.play m).S (cntT S m T):=by
 have l:=Ws.Law.of hb
 intro j hj
 obtain⟨hH,hD⟩:=h j hj
 have hs:m.k≠2→m.k≠8→m.s=1∨m.s=2:=l.sd
 by_cases e:j=m.c.toNat
 ·obtain⟨e1,e2,e3⟩:=play_ends S hb
  rw[e]
  rw[e]at hH hD
  rw[e1,e2]
  by_cases h1:m.k=1
  ·have d:S.actDF m=(if m.s=1 then S.ds m.c.toNat else dwriteS (S.PD m.c.toNat) (S.ds m.c.toNat) m.l m.b m.h):=by unfold Ws.actDF;rw[if_pos h1]
   have g:S.actHF m=(if m.s=1 then hwriteS (S.PH m.c.toNat) (S.hs m.c.toNat) m.l m.b m.h else S.hs m.c.toNat):=by unfold Ws.actHF;rw[if_pos h1]
   have t:cntT S m T=T:=by unfold cntT;rw[if_neg (by omega),if_neg (fun y=>by have:=y.1;omega)]
   rw[d,g,t]
   split
   ·exact⟨hH.weak (wk_hwrite _ _ _ _),hD⟩
   ·exact⟨hH,hD.weak (wk_dwrite _ _ _ _)⟩
  by_cases h2:m.k=2
  ·have d:S.actDF m=(S.ds m.c.toNat):=by unfold Ws.actDF;rw[if_neg h1,if_pos h2]
   have g:S.actHF m=(hsendS (S.PH m.c.toNat) (S.hs m.c.toNat)):=by unfold Ws.actHF;rw[if_neg h1,if_pos h2]
   have t:cntT S m T=T:=by unfold cntT;rw[if_neg (by omega),if_neg (fun y=>by have:=y.1;omega)]
   rw[d,g,t]
   exact⟨hH.weak (wk_hsend _),hD⟩
  by_cases h3:m.k=3∨m.k=4
  ·have d:S.actDF m=(if m.s=1 then S.ds m.c.toNat else (drecv (S.PD m.c.toNat) S.mx 16 (S.ds m.c.toNat) (S.fr m).1 (S.fr m).2).s):=by unfold Ws.actDF;rw[if_neg h1,if_neg h2,if_pos h3]
   have g:S.actHF m=(if m.s=1 then hrecvS (S.PH m.c.toNat) (S.hs m.c.toNat) (S.fr m).1 (S.fr m).2 else S.hs m.c.toNat):=by unfold Ws.actHF;rw[if_neg h1,if_neg h2,if_pos h3]
   have ee:S.actEF m=(if m.s=1 then hrecvE (S.PH m.c.toNat) (S.hs m.c.toNat) (S.fr m).1 (S.fr m).2 else (drecv (S.PD m.c.toNat) S.mx 16 (S.ds m.c.toNat) (S.fr m).1 (S.fr m).2).e):=by unfold Ws.actEF;rw[if_neg h1,if_neg h2,if_pos h3]
   have t:cntT S m T=(if S.actEF m=0 then putF T (2*m.c.toNat+m.s.toNat-1) (T (2*m.c.toNat+m.s.toNat-1)+1) else T):=by
    unfold cntT
    rw[if_neg (by omega)]
    by_cases z:S.actEF m=0
    ·rw[if_pos ⟨h3,z⟩,if_pos z]
    ·rw[if_neg (fun y=>z y.2),if_neg z]
   rw[d,g,t,ee]
   rcases hs (by omega) (by omega) with s1 | s2
   ·have ix:2*m.c.toNat+m.s.toNat-1=2*m.c.toNat:=by rw[s1];show 2*m.c.toNat+1-1=_;omega
    rw[ix,if_pos s1,if_pos s1,if_pos s1]
    have q:=cn_hrecv (P:=S.PH m.c.toNat) hH (S.fr m).1 (S.fr m).2
    by_cases z:hrecvE (S.PH m.c.toNat) (S.hs m.c.toNat) (S.fr m).1 (S.fr m).2=0
    ·rw[if_pos z,putF_same,putF_ne _ _ (by omega)]
     rw[if_pos z]at q
     exact⟨q,hD⟩
    ·rw[if_neg z]
     rw[if_neg z]at q
     exact⟨q,hD⟩
   ·have ix:2*m.c.toNat+m.s.toNat-1=2*m.c.toNat+1:=by rw[s2];show 2*m.c.toNat+2-1=_;omega
    have n1:¬ m.s=1:=by omega
    rw[ix,if_neg n1,if_neg n1,if_neg n1]
    have q:=cr_recv (P:=S.PD m.c.toNat) (mx:=S.mx) (n:=16) hD (S.fr m).1 (S.fr m).2
    unfold Cr at q
    by_cases z:(drecv (S.PD m.c.toNat) S.mx 16 (S.ds m.c.toNat) (S.fr m).1 (S.fr m).2).e=0
    ·rw[if_pos z,putF_same,putF_ne _ _ (by omega)]
     rw[if_pos z]at q
     exact⟨hH,q⟩
    ·rw[if_neg z]
     rw[if_neg z]at q
     exact⟨hH,q⟩
  by_cases h5:m.k=5
  ·have d:S.actDF m=(if m.s=1 then S.ds m.c.toNat else dtickS (S.PD m.c.toNat) (S.ds m.c.toNat) m.n):=by unfold Ws.actDF;rw[if_neg h1,if_neg h2,if_neg h3,if_pos h5]
   have g:S.actHF m=(if m.s=1 then htickS (S.PH m.c.toNat) (S.hs m.c.toNat) m.n else S.hs m.c.toNat):=by unfold Ws.actHF;rw[if_neg h1,if_neg h2,if_neg h3,if_pos h5]
   have t:cntT S m T=T:=by unfold cntT;rw[if_neg (by omega),if_neg (fun y=>by have:=y.1;omega)]
   rw[d,g,t]
   split
   ·exact⟨hH.weak (wk_htick _ _),hD⟩
   ·exact⟨hH,hD.weak (wk_dtick _ _)⟩
  by_cases h6:m.k=6
  ·have d:S.actDF m=(if m.s=1 then S.ds m.c.toNat else dackS (S.ds m.c.toNat)):=by unfold Ws.actDF;rw[if_neg h1,if_neg h2,if_neg h3,if_neg h5,if_pos h6]
   have g:S.actHF m=(if m.s=1 then hackS (S.hs m.c.toNat) else S.hs m.c.toNat):=by unfold Ws.actHF;rw[if_neg h1,if_neg h2,if_neg h3,if_neg h5,if_pos h6]
   have t:cntT S m T=T:=by unfold cntT;rw[if_neg (by omega),if_neg (fun y=>by have:=y.1;omega)]
   rw[d,g,t]
   split
   ·exact⟨hH.weak (wk_hack _),hD⟩
   ·exact⟨hH,hD.weak (wk_dack _)⟩
  by_cases h7:m.k=7
  ·have d:S.actDF m=(if m.s=1 then S.ds m.c.toNat else dresetS S.mx 16 (S.ds m.c.toNat) m.n):=by unfold Ws.actDF;rw[if_neg h1,if_neg h2,if_neg h3,if_neg h5,if_neg h6,if_pos h7]
   have g:S.actHF m=(if m.s=1 then hlife (S.hs m.c.toNat) else S.hs m.c.toNat):=by unfold Ws.actHF;rw[if_neg h1,if_neg h2,if_neg h3,if_neg h5,if_neg h6,if_pos h7]
   have t:cntT S m T=putF T (2*m.c.toNat+m.s.toNat-1) 0:=by unfold cntT;rw[if_pos h7]
   rw[d,g,t]
   rcases hs (by omega) (by omega) with s1 | s2
   ·have ix:2*m.c.toNat+m.s.toNat-1=2*m.c.toNat:=by rw[s1];show 2*m.c.toNat+1-1=_;omega
    rw[ix,if_pos s1,if_pos s1,putF_same,putF_ne _ _ (by omega)]
    exact⟨Cn.zero (.inl rfl) 0,hD⟩
   ·have ix:2*m.c.toNat+m.s.toNat-1=2*m.c.toNat+1:=by rw[s2];show 2*m.c.toNat+2-1=_;omega
    have n1:¬ m.s=1:=by omega
    rw[ix,if_neg n1,if_neg n1,putF_same,putF_ne _ _ (by omega)]
    refine⟨hH,?_⟩
    have hn7:=l.n7 h7
    unfold dresetS
    rw[if_neg (by omega)]
    refine Cn.zero ?_ 0
    show (if opE S.mx 16 (rsM (S.ds m.c.toNat).ms m.n)=0 then 1 else 6)=1∨5 ≤ (if opE S.mx 16 (rsM (S.ds m.c.toNat).ms m.n)=0 then 1 else 6)
    split <;> omega
  have d:S.actDF m=({ S.ds m.c.toNat with ms:=arS (S.ds m.c.toNat).ms m.n }):=by unfold Ws.actDF;rw[if_neg h1,if_neg h2,if_neg h3,if_neg h5,if_neg h6,if_neg h7]
  have g:S.actHF m=(S.hs m.c.toNat):=by unfold Ws.actHF;rw[if_neg h1,if_neg h2,if_neg h3,if_neg h5,if_neg h6,if_neg h7]
  have t:cntT S m T=T:=by unfold cntT;rw[if_neg (by omega),if_neg (fun y=>by have:=y.1;omega)]
  rw[d,g,t]
  exact⟨hH,hD⟩
 ·obtain⟨e1,e2⟩:=play_else I K hb e
  rw[e1,e2]
  have hT:cntT S m T (2*j)=T (2*j)∧cntT S m T (2*j+1)=T (2*j+1):=by
   unfold cntT
   split
   ·next q=>
    rcases hs (by omega) (by omega) with s | s
    ·rw[s];exact⟨putF_ne _ _ (by show 2*j≠2*m.c.toNat+1-1;omega),putF_ne _ _ (by show 2*j+1≠2*m.c.toNat+1-1;omega)⟩
    ·rw[s];exact⟨putF_ne _ _ (by show 2*j≠2*m.c.toNat+2-1;omega),putF_ne _ _ (by show 2*j+1≠2*m.c.toNat+2-1;omega)⟩
   ·split
    ·next q=>
     rcases hs (by omega) (by omega) with s | s
     ·rw[s];exact⟨putF_ne _ _ (by show 2*j≠2*m.c.toNat+1-1;omega),putF_ne _ _ (by show 2*j+1≠2*m.c.toNat+1-1;omega)⟩
     ·rw[s];exact⟨putF_ne _ _ (by show 2*j≠2*m.c.toNat+2-1;omega),putF_ne _ _ (by show 2*j+1≠2*m.c.toNat+2-1;omega)⟩
    ·exact⟨rfl,rfl⟩
  rw[hT.1,hT.2]
  exact⟨hH,hD⟩
end Go.Proofs.YtgaeofgdiaknpaaGreat
namespace Go.Proofs.YtgaeofgdiaknpaaGreat
set_option maxRecDepth 100000
open Go.RowKit Go.Maps
set_option linter.unusedVariables false
def tkO (T:Nat→Nat):Obj:=.cells #[.int .i64 (T 0:Nat),.int .i64 (T 1:Nat),.int .i64 (T 2:Nat),.int .i64 (T 3:Nat)] 3 (0,0)
theorem tkO_set {w:World} {q:Nat} {T:Nat→Nat} (h:w.heap[q]?=some (tkO T)) {a:Nat} (ha:a<4) (v:Nat):(w.setCell ⟨q,a,none⟩ (.int .i64 (v:Nat))).heap[q]?=some (tkO (putF T a v)):=by
 have k:(w.setCell ⟨q,a,none⟩ (.int .i64 (v:Nat))).heap[q]?=some (.cells ((#[.int .i64 (T 0:Nat),.int .i64 (T 1:Nat),.int .i64 (T 2:Nat),.int .i64 (T 3:Nat)]:Array Value).setIfInBounds a (.int .i64 (v:Nat))) 3 (0,0)):=heap_setCell_same _ _ _ _ _ _ h
 have:a=0∨a=1∨a=2∨a=3:=by omega
 rcases this with rfl | rfl | rfl | rfl
 all_goals exact k
theorem tkO_get {w:World} {q:Nat} {T:Nat→Nat} (h:w.heap[q]?=some (tkO T)) {a:Nat} (ha:a<4):w.cell? ⟨q,a,none⟩=some (.int .i64 (T a:Nat))∧w.frozen? ⟨q,a,none⟩=false:=by
 refine⟨?_,frozen_of_row w q a _ _ h⟩
 rw[cell_of_row w q a _ _ _ h]
 have:a=0∨a=1∨a=2∨a=3:=by omega
 rcases this with rfl | rfl | rfl | rfl <;> rfl
theorem PWn.turnB {e:Nat→Nat} {w0 w w':World} {t:Nat→Thing} {L:Pw} {S:Ws} {i q:Nat} {ob ob':Obj} (h:PWn e w0 (putT t i (blT [(q,ob)])) L w S) (hi:∀ j,i≠e j) (o:Off [q] w w') (hob:w'.heap[q]?=some ob'):PWn e w0 (putT t i (blT [(q,ob')])) L w' S:=by
 obtain⟨t1,L1,h1,hs,hx,he⟩:=h
 have e1:t1 i=blT [(q,ob)]:=by rw[he i hi,putT_same]
 have u1:(t1 i).U=[q]:=by rw[e1];rfl
 have lq:=(Array.getElem?_eq_some_iff.1 hob).1
 have hq:=h1.1.lt i q (by rw[u1];exact List.mem_singleton.2 rfl)
 refine⟨putT t1 i (blT [(q,ob')]),L1,⟨h1.1.turn i _ (by rw[u1];exact o) ?_ ?_ ?_,h1.2.1,fun j=>by rw[putT_ne _ _ (fun z=>hi j z.symm)];exact h1.2.2 j⟩,hs,hx,fun k hk=>?_⟩
 ·intro p hp
  obtain rfl:=List.mem_singleton.1 hp
  exact hob
 ·intro k hk
  have hk:k ∈ [q]:=hk
  obtain rfl:=List.mem_singleton.1 hk
  exact⟨hq.1,lq⟩
 ·intro k hk j hj
  have hk:k ∈ [q]:=hk
  exact h1.1.dis i j (fun z=>hj z.symm) k (by rw[u1];exact hk)
 ·by_cases z:k=i
  ·subst z
   rw[putT_same,putT_same]
  ·rw[putT_ne _ _ z,putT_ne _ _ z,he k hk,putT_ne _ _ z]
abbrev EncH (A:Array Value) (s:Sh):Prop:=Enc A s.st s.ss s.nm s.sn s.dc s.v.lat (vreq s.v) (von s.v)
abbrev EncD (A:Array Value) (s:Sd):Prop:=Enc A s.st s.ss s.nm s.sn s.dc s.v.lat (vreq s.v) (von s.v)
def RwC (A hV dV:Array Value) (S:Ws) (m:Mv):Prop:=hV.size=9∧hV.all (·.oneCell')=true∧dV.size=9∧dV.all (·.oneCell')=true∧EncH hV ((S.play m).S.hs m.c.toNat)∧EncD dV ((S.play m).S.ds m.c.toNat)∧A.toList[9]?=some (.int .i64 (S.play m).e)∧(∀ j v,hV.toList[j]?=some v→A.toList[11+j]?=some v)∧∀ j v,dV.toList[j]?=some v→A.toList[20+j]?=some v
theorem at9 {A:Array Value} {n:Nat} {v0 v1 v2 v3 v4 v5 v6 v7 v8:Value} (h0:A.toList[n+0]?=some v0) (h1:A.toList[n+1]?=some v1) (h2:A.toList[n+2]?=some v2) (h3:A.toList[n+3]?=some v3) (h4:A.toList[n+4]?=some v4) (h5:A.toList[n+5]?=some v5) (h6:A.toList[n+6]?=some v6) (h7:A.toList[n+7]?=some v7) (h8:A.toList[n+8]?=some v8):∀ j v,(#[v0,v1,v2,v3,v4,v5,v6,v7,v8]:Array Value).toList[j]?=some v→A.toList[n+j]?=some v:=fun j v hv=>by
 have hj:j<9:=(List.getElem?_eq_some_iff.1 hv).1
 have:j=0∨j=1∨j=2∨j=3∨j=4∨j=5∨j=6∨j=7∨j=8:=by omega
 rcases this with rfl | rfl | rfl | rfl | rfl | rfl | rfl | rfl | rfl
 ·exact h0.trans hv
 ·exact h1.trans hv
 ·exact h2.trans hv
 ·exact h3.trans hv
 ·exact h4.trans hv
 ·exact h5.trans hv
 ·exact h6.trans hv
 ·exact h7.trans hv
 ·exact h8.trans hv
theorem pplayR {w0 w:World} {t:Nat→Thing} {L:Pw} {S:Ws} {i:Nat} (m:Mv) (d:Option Addr) (c:Nat) (h:PWn ev w0 t L w S) (F:Fre ev t i) (I:S.In) (ok:m.Ok) (hn:0<S.n) (R:Row8 w d m.l c m.b) (hd:∀ y,d=some y→0<m.l→y.block≠L.x) (hl:m.l≤140737488351232):Calls Tryz.prog 12 #[.pointer (some ⟨L.x,0,none⟩),.agg #[.int .i64 m.k,.int .i64 m.c,.int .i64 m.s,.int .i64 m.f,.int .i64 m.a,.int .u32 (m.w:Nat),.int .i64 m.n,.bool m.h,.slice d m.l c]] w fun r w'=>∃ (A:Array Value) (E:Int),r=.returned (.tuple #[.agg A,.int .i64 E])∧A.size=29∧A.all (·.oneCell')=true∧Hid (E=S.bad m∧PWn ev w0 t L w' (S.play m).S∧(S.bad m=0→∃ hV dV,RwC A hV dV S m)):=by
 obtain⟨t1,L1,h1,hs,hx,he⟩:=h
 subst hs
 have F1:=F.els he
 have hP:=pplayIn ev w0 w t1 L1 i m d c h1 F1 I ok hn R (fun y hy h0=>by rw[hx.x];exact hd y hy h0) hl
 rw[hx.x]at hP
 refine hP.mono ?_
 rintro r w' (⟨hb,rfl,H⟩ | ⟨hb,a',c',ah,ch,ad,cd,rfl,H⟩)
 ·refine⟨_,_,rfl,rfl,by kernel_rfl,rfl,?_,fun q=>absurd q hb⟩
  have hp:(L1.S.play m).S=L1.S:=by
   unfold Ws.play
   rw[if_pos hb]
  rw[hp]
  exact PWn.bind hx he H.out.1.n
 ·exact⟨_,_,rfl,rfl,by kernel_rfl,hb.symm,PWn.bind hx he (H.out.dropR F1),fun _=>⟨#[_,_,_,_,_,_,_,_,.slice ah _ ch],#[_,_,_,_,_,_,_,_,.slice ad _ cd],rfl,by kernel_rfl,rfl,by kernel_rfl,⟨rfl,rfl,rfl,rfl,rfl,rfl,rfl,rfl⟩,⟨rfl,rfl,rfl,rfl,rfl,rfl,rfl,rfl⟩,rfl,at9 (n:=11) rfl rfl rfl rfl rfl rfl rfl rfl rfl,at9 (n:=20) rfl rfl rfl rfl rfl rfl rfl rfl rfl⟩⟩
theorem storeEnd (w:World) {A:Array Value} (hs:A.size=9) (ho:A.all (·.oneCell')=true):∃ wz,(storeCells ⟨w.heap.size,0,none⟩ A.toList).run Tryz.prog (w.alloc (.cells #[.int .i64 0,.int .u32 0,.int .u32 0,.int .u32 0,.int .i64 0,.int .i64 0,.bool false,.bool false,.slice none 0 0] 42))=.ok () wz∧wz.rangeAt w.heap.size 0 A.toList∧Below w.heap.size w wz∧wz.there w.heap.size 0 9:=by
 have kr:=heap_alloc_new w (.cells #[.int .i64 0,.int .u32 0,.int .u32 0,.int .u32 0,.int .i64 0,.int .i64 0,.bool false,.bool false,.slice none 0 0] 42)
 have h9:(w.alloc (.cells #[.int .i64 0,.int .u32 0,.int .u32 0,.int .u32 0,.int .i64 0,.int .i64 0,.bool false,.bool false,.slice none 0 0] 42)).there w.heap.size 0 9:=there_row kr rfl
 have hth:(w.alloc (.cells #[.int .i64 0,.int .u32 0,.int .u32 0,.int .u32 0,.int .i64 0,.int .i64 0,.bool false,.bool false,.slice none 0 0] 42)).there w.heap.size 0 A.size:=by rw[hs];exact h9
 exact⟨_,storeY_run hth ho,World.rangeAt_setCells_same _ w.heap.size 0 A.toList (by simpa using hth),(off_setCells _ w.heap.size 0 A.toList).below (belY (Below.refl _ _) _) (by simp) (by rw[sz1];omega),World.there_setCells h9 _ _ _⟩
theorem storeOver {w:World} {x:Nat} (h:w.there x 0 9) {A:Array Value} (hs:A.size=9) (ho:A.all (·.oneCell')=true):∃ wz,(storeCells ⟨x,0,none⟩ A.toList).run Tryz.prog w=.ok () wz∧wz.rangeAt x 0 A.toList∧Off [x] w wz:=by
 have hth:w.there x 0 A.size:=by rw[hs];exact h
 exact⟨_,storeY_run hth ho,World.rangeAt_setCells_same _ x 0 A.toList (by simpa using hth),off_setCells _ x 0 A.toList⟩
structure Jr (S:Ws) (k:Nat) (T:Nat→Nat):Prop where
 I:S.In
 n:S.n=2
 J:Jc S T
 b:∀ i,T i≤k
theorem Jr.skip {S:Ws} {k:Nat} {T:Nat→Nat} (h:Jr S k T):Jr S (k+1) T:=⟨h.I,h.n,h.J,fun i=>by have:=h.b i;omega⟩
theorem Jr.next {S:Ws} {k:Nat} {T:Nat→Nat} (h:Jr S k T) (K:S.Kn) {m:Mv} (hb:S.bad m=0):Jr (S.play m).S (k+1) (cntT S m T):=by
 refine⟨h.I.play K,by rw[play_n];exact h.n,h.J.next h.I K hb,fun i=>?_⟩
 have hp:∀ a v,v≤k+1→putF T a v i≤k+1:=fun a v hv=>by
  unfold putF
  split
  ·exact hv
  ·have:=h.b i;omega
 unfold cntT
 split
 ·exact hp _ _ (by omega)
 ·split
  ·exact hp _ _ (by have:=h.b (2*m.c.toNat+m.s.toNat-1);omega)
  ·have:=h.b i;omega
theorem Jr.start:Jr (sN 2 50 pgM pgM) 0 (fun _=>0):=⟨sN_in _ _ _ _,rfl,fun j hj=>⟨Cn.zero (.inl rfl) 0,Cn.zero (.inl rfl) 0⟩,fun _=>Nat.le_refl _⟩
theorem Jr.on {S:Ws} {k:Nat} {T:Nat→Nat} (h:Jr S k T) {j:Nat} (hj:j<2):(von (S.hs j).v=true→4≤T (2*j))∧(von (S.ds j).v=true→4≤T (2*j+1)):=⟨fun e=>(h.J j hj).1.2.2.2 (von_sm e),fun e=>(h.J j hj).2.2.2.2 (von_sm e)⟩
theorem reset_ends {S:Ws} {m:Mv} (hb:S.bad m=0) (h7:m.k=7):(m.s=1→((S.play m).S.hs m.c.toNat).v=vnew∧((S.play m).S.hs m.c.toNat).ss=0∧((S.play m).S.hs m.c.toNat).dc=0)∧(m.s=2→((S.play m).S.ds m.c.toNat).v=vnew∧((S.play m).S.ds m.c.toNat).ss=0∧((S.play m).S.ds m.c.toNat).dc=0):=by
 obtain⟨e1,e2,_⟩:=play_ends S hb
 have hn:=(Ws.Law.of hb).n7 h7
 rw[e1,e2]
 refine⟨fun s1=>?_,fun s2=>?_⟩
 ·have d:S.actHF m=hlife (S.hs m.c.toNat):=by unfold Ws.actHF;rw[if_neg (by omega),if_neg (by omega),if_neg (by omega),if_neg (by omega),if_neg (by omega),if_pos h7,if_pos s1]
  rw[d]
  exact⟨rfl,rfl,rfl⟩
 ·have d:S.actDF m=dresetS S.mx 16 (S.ds m.c.toNat) m.n:=by unfold Ws.actDF;rw[if_neg (by omega),if_neg (by omega),if_neg (by omega),if_neg (by omega),if_neg (by omega),if_pos h7,if_neg (by omega)]
  rw[d]
  unfold dresetS
  rw[if_neg (by omega)]
  exact⟨rfl,rfl,rfl⟩
theorem cntT_7 {S:Ws} {m:Mv} (h:m.k=7) (T:Nat→Nat):cntT S m T=putF T (2*m.c.toNat+m.s.toNat-1) 0:=by unfold cntT;rw[if_pos h]
theorem cntT_no {S:Ws} {m:Mv} (h7:¬ m.k=7) (h:¬ ((m.k=3∨m.k=4)∧S.actEF m=0)) (T:Nat→Nat):cntT S m T=T:=by unfold cntT;rw[if_neg h7,if_neg h]
theorem cntT_up {S:Ws} {m:Mv} (h7:¬ m.k=7) (h:(m.k=3∨m.k=4)∧S.actEF m=0) (T:Nat→Nat):cntT S m T=putF T (2*m.c.toNat+m.s.toNat-1) (T (2*m.c.toNat+m.s.toNat-1)+1):=by unfold cntT;rw[if_neg h7,if_pos h]
theorem make4 (w:World):(Instr.makeSlice 33 (.int .i64 4) (.int .i64 4)).run Tryz.prog w=.ok (.slice (some ⟨w.heap.size,0,none⟩) 4 4) (w.alloc (.cells #[.int .i64 0,.int .i64 0,.int .i64 0,.int .i64 0] 3)):=by kernel_rfl
theorem pgM1_ok:∀ k,k<2→Pok (pgM k):=fun k hk=>by
 have:k=0∨k=1:=by omega
 rcases this with rfl | rfl <;> exact⟨by unfold okP pgM;decide,by decide,by decide⟩
theorem pgM1_ck:ckE 2 2 50 (fun i=>(pgM i).q) (fun i=>(pgM i).q)=0:=by decide
theorem mvY_cells (w:World) (o:Array Value) (wx:World) (hb:Below (w.alloc (.cells o 38)).heap.size (w.alloc (.cells o 38)) wx) (i:Nat):wx.cell? ⟨w.heap.size,i,none⟩=o[i]?:=by
 rw[hb.cell (p:=⟨w.heap.size,i,none⟩) (by simp)]
 exact cell_of_row _ _ _ _ _ _ (heap_alloc_new _ _)
theorem mvY_frozen (w:World) (o:Array Value) (i:Nat) (wx:World) (hb:Below (w.alloc (.cells o 38)).heap.size (w.alloc (.cells o 38)) wx):wx.frozen? ⟨w.heap.size,i,none⟩=false:=by
 rw[hb.frozen (p:=⟨w.heap.size,i,none⟩) (by simp)]
 simp
theorem pcopyY (m:Mv) (d:Option Addr) (e:Nat) (w:World) (hr:Row8 w d m.l e m.b) (hlen:m.l≤140737488351232):Calls Tryz.prog 11 #[.agg #[.int .i64 m.k,.int .i64 m.c,.int .i64 m.s,.int .i64 m.f,.int .i64 m.a,.int .u32 (m.w:Nat),.int .i64 m.n,.bool m.h,.slice d m.l e]] w fun r w'=>∃ a' c',r=.returned (.agg #[.int .i64 m.k,.int .i64 m.c,.int .i64 m.s,.int .i64 m.f,.int .i64 m.a,.int .u32 (m.w:Nat),.int .i64 m.n,.bool m.h,.slice a' m.l c'])∧Hid (Row8 w' a' m.l c' m.b∧Below w.heap.size w w'∧∀ y,a'=some y→0<m.l→w.heap.size≤y.block):=by
 obtain⟨i0,hi,hz0,hz1,hz2⟩:=info_parts info_u8
 have hbd:=build0D
 have hX:=fun wx hb=>mvY_cells w #[.int .i64 m.k,.int .i64 m.c,.int .i64 m.s,.int .i64 m.f,.int .i64 m.a,.int .u32 (m.w:Nat),.int .i64 m.n,.bool m.h,.slice d m.l e] wx hb
 have hXf:=fun i wx hb=>mvY_frozen w #[.int .i64 m.k,.int .i64 m.c,.int .i64 m.s,.int .i64 m.f,.int .i64 m.a,.int .u32 (m.w:Nat),.int .i64 m.n,.bool m.h,.slice d m.l e] i wx hb
 obtain⟨wa,hwa⟩:∃ x,x=w.alloc (.cells #[.int .i64 m.k,.int .i64 m.c,.int .i64 m.s,.int .i64 m.f,.int .i64 m.a,.int .u32 (m.w:Nat),.int .i64 m.n,.bool m.h,.slice d m.l e] 38):=⟨_,rfl⟩
 rw[← hwa]at hX hXf
 have hA:Below w.heap.size w wa:=by rw[hwa];exact (Below.refl _ _).alloc (Nat.le_refl _) _
 have hAs:wa.heap.size=w.heap.size+1:=by rw[hwa];simp
 have hY:=fun wx hb=>mvY_cells wa #[.int .i64 0,.int .i64 0,.int .i64 0,.int .i64 0,.int .i64 0,.int .u32 0,.int .i64 0,.bool false,.slice none 0 0] wx hb
 have hYf:=fun i wx hb=>mvY_frozen wa #[.int .i64 0,.int .i64 0,.int .i64 0,.int .i64 0,.int .i64 0,.int .u32 0,.int .i64 0,.bool false,.slice none 0 0] i wx hb
 obtain⟨wb,hwb⟩:∃ x,x=wa.alloc (.cells #[.int .i64 0,.int .i64 0,.int .i64 0,.int .i64 0,.int .i64 0,.int .u32 0,.int .i64 0,.bool false,.slice none 0 0] 38):=⟨_,rfl⟩
 rw[← hwb]at hY hYf
 have hB:Below wa.heap.size wa wb:=by rw[hwb];exact (Below.refl _ _).alloc (Nat.le_refl _) _
 have hBs:wb.heap.size=w.heap.size+1+1:=by rw[hwb,hwa];simp
 have hC:Below wb.heap.size wb (wb.alloc (.cells #[] 5)):=(Below.refl _ _).alloc (Nat.le_refl _) _
 have O0:(wb.alloc (.cells #[] 5)).ownsRow wb.heap.size 5 1 (.slice (some ⟨wb.heap.size,0,none⟩) 0 0) 0 (CB m.b 0):=World.ownsRow_made wb #[] 0 (Nat.le_refl _) (Nat.zero_le _) rfl
 have hszC:=hC.size
 have R0:=((hr.below hA).below hB).below hC
 rw[hAs]at hY hYf
 go_enter Tryz.func11,Tryz.ntmps11
 go_upto_region 1 with fail
 try rw[← hwa]
 try rw[← hwb]
 have H0:Hid (_):=And.intro hwa (And.intro hwb (And.intro hAs hBs))
 clear hwa hwb
 have x8:(wb.alloc (.cells #[] 5)).cell? ⟨w.heap.size,8,none⟩=some (.slice d m.l e):=hX (wb.alloc (.cells #[] 5)) (hB.trans (hC.mono (by omega))) 8
 clear hAs hBs
 go_wp2_with (at_builtin;refine wpList_append_row8 rfl (.tmp 3) (.tmp 5) 36 rfl wb.heap.size 5 i0 (.int .u8 0) Tryz.underlying36 hi hz0 hz1 hz2 rfl _ 0 _ rfl O0 d m.l e m.b rfl R0 (by unfold maxLen;omega) (by omega) hszC ?_)
 intro v2 w2 hown2 hgrow2
 have hbel2:Below wb.heap.size wb w2:=hC.grown hgrow2 hszC (fun j hj=>(O0.lt j hj).1)
 rw[show CB m.b 0=[] from rfl,List.nil_append]at hown2
 have hlt:w.heap.size<wb.heap.size∧w.heap.size+1<wb.heap.size:=by have:=H0.out;omega
 have hbelA:Below wa.heap.size wa w2:=hB.trans (hbel2.mono (by have:=H0.out;omega))
 have x0:w2.cell? ⟨w.heap.size,0,none⟩=some ((.int .i64 m.k)):=hX w2 hbelA 0
 have x1:w2.cell? ⟨w.heap.size,1,none⟩=some ((.int .i64 m.c)):=hX w2 hbelA 1
 have x2:w2.cell? ⟨w.heap.size,2,none⟩=some ((.int .i64 m.s)):=hX w2 hbelA 2
 have x3:w2.cell? ⟨w.heap.size,3,none⟩=some ((.int .i64 m.f)):=hX w2 hbelA 3
 have x4:w2.cell? ⟨w.heap.size,4,none⟩=some ((.int .i64 m.a)):=hX w2 hbelA 4
 have x5:w2.cell? ⟨w.heap.size,5,none⟩=some ((.int .u32 (m.w:Nat))):=hX w2 hbelA 5
 have x6:w2.cell? ⟨w.heap.size,6,none⟩=some ((.int .i64 m.n)):=hX w2 hbelA 6
 have x7:w2.cell? ⟨w.heap.size,7,none⟩=some ((.bool m.h)):=hX w2 hbelA 7
 have x8:w2.cell? ⟨w.heap.size,8,none⟩=some ((.slice d m.l e)):=hX w2 hbelA 8
 have y0:w2.cell? ⟨w.heap.size+1,0,none⟩=some (.int .i64 0):=hY w2 hbel2 0
 have y1:w2.cell? ⟨w.heap.size+1,1,none⟩=some (.int .i64 0):=hY w2 hbel2 1
 have y2:w2.cell? ⟨w.heap.size+1,2,none⟩=some (.int .i64 0):=hY w2 hbel2 2
 have y3:w2.cell? ⟨w.heap.size+1,3,none⟩=some (.int .i64 0):=hY w2 hbel2 3
 have y4:w2.cell? ⟨w.heap.size+1,4,none⟩=some (.int .i64 0):=hY w2 hbel2 4
 have y5:w2.cell? ⟨w.heap.size+1,5,none⟩=some (.int .u32 0):=hY w2 hbel2 5
 have y6:w2.cell? ⟨w.heap.size+1,6,none⟩=some (.int .i64 0):=hY w2 hbel2 6
 have y7:w2.cell? ⟨w.heap.size+1,7,none⟩=some (.bool false):=hY w2 hbel2 7
 have y8:w2.cell? ⟨w.heap.size+1,8,none⟩=some (.slice none 0 0):=hY w2 hbel2 8
 have xf:=fun i=>hXf i w2 hbelA
 have yf:=fun i=>hYf i w2 hbel2
 obtain⟨a2,c2,rfl,R2⟩:=own_row8 hown2 hr.byte
 have HR:Hid (w2.ownsRow wb.heap.size 5 1 (.slice a2 m.l c2) m.l (CB m.b m.l)∧Below wb.heap.size wb w2):=⟨hown2,hbel2⟩
 clear hgrow2 O0 R0 hC hszC hX hY hXf hYf hown2 R2 hbel2 hbelA hbd
 go_wp2_with fail
 refine bodyPost_ret (v:=.agg #[.int .i64 m.k,.int .i64 m.c,.int .i64 m.s,.int .i64 m.f,.int .i64 m.a,.int .u32 (m.w:Nat),.int .i64 m.n,.bool m.h,.slice a2 m.l c2]) (by simp[results,Tryz.results11,go_sem,y0,y1,y2,y3,y4,y5,y6,y7,y8]) rfl ⟨a2,c2,rfl,?_,?_,?_⟩
 ·obtain⟨a3,c3,e,R3⟩:=own_row8 (ownsRow_setCell_below (ownsRow_setCell_below (ownsRow_setCell_below (ownsRow_setCell_below (ownsRow_setCell_below (ownsRow_setCell_below (ownsRow_setCell_below (ownsRow_setCell_below (ownsRow_setCell_below (ownsRow_setCell_below HR.out.1 (a:=⟨w.heap.size,8,none⟩) hlt.1 _) (a:=⟨w.heap.size+1,0,none⟩) hlt.2 _) (a:=⟨w.heap.size+1,1,none⟩) hlt.2 _) (a:=⟨w.heap.size+1,2,none⟩) hlt.2 _) (a:=⟨w.heap.size+1,3,none⟩) hlt.2 _) (a:=⟨w.heap.size+1,4,none⟩) hlt.2 _) (a:=⟨w.heap.size+1,5,none⟩) hlt.2 _) (a:=⟨w.heap.size+1,6,none⟩) hlt.2 _) (a:=⟨w.heap.size+1,7,none⟩) hlt.2 _) (a:=⟨w.heap.size+1,8,none⟩) hlt.2 _) hr.byte
  simp only[Value.slice.injEq,true_and]at e
  obtain⟨rfl,rfl⟩:=e
  exact R3
 ·have hb:Below w.heap.size w w2:=(hA.trans (hB.mono (by have:=H0.out;omega))).trans (HR.out.2.mono (by omega))
  exact ((((((((((hb.setCell (p:=⟨w.heap.size,8,none⟩) (Nat.le_refl _) _).setCell (p:=⟨w.heap.size+1,0,none⟩) (Nat.le_succ _) _).setCell (p:=⟨w.heap.size+1,1,none⟩) (Nat.le_succ _) _).setCell (p:=⟨w.heap.size+1,2,none⟩) (Nat.le_succ _) _).setCell (p:=⟨w.heap.size+1,3,none⟩) (Nat.le_succ _) _).setCell (p:=⟨w.heap.size+1,4,none⟩) (Nat.le_succ _) _).setCell (p:=⟨w.heap.size+1,5,none⟩) (Nat.le_succ _) _).setCell (p:=⟨w.heap.size+1,6,none⟩) (Nat.le_succ _) _).setCell (p:=⟨w.heap.size+1,7,none⟩) (Nat.le_succ _) _).setCell (p:=⟨w.heap.size+1,8,none⟩) (Nat.le_succ _) _)
 ·intro y hy hn
  rcases HR.out.1.2 with ⟨e,_⟩ | ⟨g,cap,cur,e,hg,_⟩
  ·simp only[Value.slice.injEq]at e
   rw[e.1]at hy
   cases hy
  ·simp only[Value.slice.injEq]at e
   rw[e.1]at hy
   cases hy
   have:=hlt.1
   show w.heap.size≤g
   omega
theorem note_bg (S:Ws) (l:List Fa):(S.note l).bg=S.bg:=rfl
theorem note_mv (S:Ws) (l:List Fa):(S.note l).mv=S.mv:=rfl
theorem wpList_loadAG {P:Program} {ops:Array Oper} {rest:List Oper} {op:Oper} {a:Act} {w:World} {Q:Exit→Act→World→Prop} (hw:Region.wanted op (yielded ops a.tmps)=true) (ty:TypeId) (x:Operand) (ho:op.op=.load ty x)
  (b o:Nat) (hx:a.eval x=.pointer (some ⟨b,o,none⟩)) (A:Array Value) (d:TypeDesc) (hc:w.rangeAt b o A.toList)
  (hu:P.underlying ty=some d) (hd:d.isRow=true) (hi:(P.info? ty).map (·.size)=some A.size)
  (h:wpList P ops Q rest (a.put op.dst (.agg A)) w):wpList P ops Q (op :: rest) a w:=
 wpList_load_midG hw ty x ho b o hx A.toList d hc hu hd (by simpa using hi) (by simpa using h)
theorem pq_one {w:World} {q:Nat} (h:w.heap[q]?=some (.cells #[.int .u32 7,.int .i64 2,.int .i64 1,.int .i64 10,.int .u32 9] 50 (0,0))):PqRow w (some ⟨q,0,none⟩) 1 (fun _=>P0.q):=fun i hi=>by
 obtain rfl:i=0:=by omega
 refine⟨q,0,rfl,fun j u hu=>?_⟩
 rw[show 0+0*5+j=j by omega,cell_of_row w q j _ _ _ h]
 have e:(P0.q).cs.toArray=#[.int .u32 7,.int .i64 2,.int .i64 1,.int .i64 10,.int .u32 9]:=by rfl
 rw[← e]
 simpa using hu
theorem p0_ck:ckE 1 1 50 (fun _=>P0.q) (fun _=>P0.q)=0:=by decide
theorem pnewL0 (q0 q1:Nat) (w:World) (h0:w.heap[q0]?=some (.cells #[.int .u32 7,.int .i64 2,.int .i64 1,.int .i64 10,.int .u32 9] 50 (0,0))) (h1:w.heap[q1]?=some (.cells #[.int .u32 7,.int .i64 2,.int .i64 1,.int .i64 10,.int .u32 9] 50 (0,0))):Calls Tryz.prog 9 #[.agg #[.slice (some ⟨q0,0,none⟩) 1 1,.slice (some ⟨q1,0,none⟩) 1 1,.int .u32 50]] w fun r w'=>∃ L:Pw,r=.returned (.tuple #[.pointer (some ⟨L.x,0,none⟩),.int .i64 0])∧Hid (PW ev w w' (evT L) L∧L.S=s0 P0 P0 50):=
 wnewQ (fun _=>P0) (fun _=>P0) q0 0 1 q1 0 1 1 50 (fun _ _=>P0_ok) (fun _ _=>P0_ok) (by decide) (by decide) (by decide) (by decide) (by decide) (by decide) w (pq_one h0) (pq_one h1) p0_ck
theorem storeRow (w:World) {A:Array Value} (hs:A.size=29) (ho:A.all (·.oneCell')=true):∃ wz,(storeCells ⟨w.heap.size,0,none⟩ A.toList).run Tryz.prog (w.alloc (.cells #[.int .i64 0,.int .i64 0,.int .i64 0,.int .i64 0,.int .i64 0,.int .u32 0,.int .i64 0,.bool false,.slice none 0 0,.int .i64 0,.int .i64 0,.int .i64 0,.int .u32 0,.int .u32 0,.int .u32 0,.int .i64 0,.int .i64 0,.bool false,.bool false,.slice none 0 0,.int .i64 0,.int .u32 0,.int .u32 0,.int .u32 0,.int .i64 0,.int .i64 0,.bool false,.bool false,.slice none 0 0] 44))=.ok () wz∧wz.rangeAt w.heap.size 0 A.toList∧Below w.heap.size w wz:=by
 have kr:=heap_alloc_new w (.cells #[.int .i64 0,.int .i64 0,.int .i64 0,.int .i64 0,.int .i64 0,.int .u32 0,.int .i64 0,.bool false,.slice none 0 0,.int .i64 0,.int .i64 0,.int .i64 0,.int .u32 0,.int .u32 0,.int .u32 0,.int .i64 0,.int .i64 0,.bool false,.bool false,.slice none 0 0,.int .i64 0,.int .u32 0,.int .u32 0,.int .u32 0,.int .i64 0,.int .i64 0,.bool false,.bool false,.slice none 0 0] 44)
 have hth:(w.alloc (.cells #[.int .i64 0,.int .i64 0,.int .i64 0,.int .i64 0,.int .i64 0,.int .u32 0,.int .i64 0,.bool false,.slice none 0 0,.int .i64 0,.int .i64 0,.int .i64 0,.int .u32 0,.int .u32 0,.int .u32 0,.int .i64 0,.int .i64 0,.bool false,.bool false,.slice none 0 0,.int .i64 0,.int .u32 0,.int .u32 0,.int .u32 0,.int .i64 0,.int .i64 0,.bool false,.bool false,.slice none 0 0] 44)).there w.heap.size 0 A.size:=there_row kr (by rw[hs];rfl)
 exact⟨_,storeY_run hth ho,World.rangeAt_setCells_same _ w.heap.size 0 A.toList (by simpa using hth),(off_setCells _ w.heap.size 0 A.toList).below (belY (Below.refl _ _) _) (by simp) (by rw[sz1];omega)⟩
theorem awake17q (w:World):Calls Tryz.prog 10 #[] w fun r w'=>r=.returned (.bool true)∧Below w.heap.size w w':=by
 have hLo:=plone w
 go_enter Tryz.func10,Tryz.ntmps10
 go_wp2_with fail
 refine hLo.mono ?_
 rintro r w1 ⟨q0,q1,rfl,H1⟩
 clear hLo
 have hN:Calls Tryz.prog 9 #[.agg #[.slice (some ⟨q0,0,none⟩) 1 1,.slice (some ⟨q1,0,none⟩) 1 1,.int .u32 50]] w1 fun r w'=>∃ L:Pw,r=.returned (.tuple #[.pointer (some ⟨L.x,0,none⟩),.int .i64 0])∧Hid (PW ev w1 w' (evT L) L∧L.S=s0 P0 P0 50):=pnewL0 q0 q1 w1 H1.out.1 H1.out.2.1
 go_wp2_with fail
 refine hN.mono ?_
 rintro r w2 ⟨L,rfl,H2⟩
 clear hN
 have hP1:=aw1 H2.out.1 (evT_fre L) H2.out.2
 obtain⟨X,hX⟩:∃ y,L.x=y:=⟨_,rfl⟩
 rw[hX]at hP1 ⊢
 have HX:Hid (L.x=X):=hX
 clear hX
 go_wp2_with fail
 refine hP1.mono ?_
 rintro r w3 ⟨A,rfl,hsA,hoA,hA10,H3⟩
 clear hP1
 obtain⟨wz,hst1,hrg1,hbl1⟩:=storeRow w3 hsA hoA
 have cb:wz.cell? ⟨w3.heap.size,10,none⟩=some (.int .i64 0):=hrg1 10 _ hA10
 have lb:=World.block_lt_of_cell? wz _ cb
 obtain⟨ob,hob⟩:∃ ob,wz.heap[w3.heap.size]?=some ob:=⟨_,Array.getElem?_eq_getElem lb⟩
 have F0:=evT_fre L
 have hp2:=H3.out.layL hbl1 (i:=2*0+1) (F0 0 (Nat.le_refl _)).1 (l:=[(w3.heap.size,ob)]) (fun p hp=>by
  simp only[List.mem_cons,List.not_mem_nil,or_false]at hp
  subst hp
  exact hob) (fun p hp=>by
  simp only[List.mem_cons,List.not_mem_nil,or_false]at hp
  subst hp
  exact Nat.le_refl _)
 have F1:Fre ev (putT (evT L) (2*0+1) (blT [(w3.heap.size,ob)])) 1:=F0.put _
 have hP2:=aw2 (T:=aS1) a1.2.2 hp2 F1
 rw[HX.out]at hP2
 have HB:Hid (_):=And.intro cb (And.intro hob (And.intro hbl1 F0))
 clear hrg1 hbl1 cb lb hob hp2 F1 F0
 go_wp2_with fail
 refine hP2.mono ?_
 rintro r w4 ⟨A2,rfl,hsA2,hoA2,hB10,hB20,H4⟩
 clear hP2 hst1
 obtain⟨wy,hst2,hrg2,hbl2⟩:=storeRow w4 hsA2 hoA2
 have c1:wy.cell? ⟨w4.heap.size,10,none⟩=some (.int .i64 1):=hrg2 10 _ hB10
 have c2:wy.cell? ⟨w4.heap.size,20,none⟩=some (.int .i64 2):=hrg2 20 _ hB20
 obtain⟨cb,hob,hbl1,F0⟩:=HB.out
 have hb4:=H4.out.box (q:=2*0+1) (F0 0 (Nat.le_refl _)).1 (putT_same _ _ _) _ (List.mem_cons_self ..)
 have hb5:=(hbl2.block w3.heap.size (Array.getElem?_eq_some_iff.1 hb4).1).trans hb4
 have c0:wy.cell? ⟨w3.heap.size,10,none⟩=some (.int .i64 0):=(World.cell?_of_block (w:=wz) (a:=⟨w3.heap.size,10,none⟩) (hb5.trans hob.symm)).trans cb
 have hp5:=H4.out.below hbl2
 have hFr:=pframes hp5
 have hMo:=pmoves hp5
 obtain⟨_,_,e1,e2,_⟩:=a3 (T:=aS1) a1.2.2
 rw[HX.out,note_bg,e1]at hFr
 rw[HX.out,note_mv,e2]at hMo
 have hbw:Below w1.heap.size w1 wy:=by
  obtain⟨t9,L9,h9,_⟩:=hp5
  exact h9.1.bel
 have HE:Hid (Below w.heap.size w wy):=H1.out.2.2.trans (hbw.mono H1.out.2.2.size)
 clear hrg2 hbl2 cb hob hbl1 F0 hb4 hb5 hp5 e1 e2 hbw HB H4 H3 H2 HX
 go_wp2_with fail
 refine hFr.mono ?_
 rintro r w6 ⟨rfl,rfl⟩
 go_wp2_with fail
 refine hMo.mono ?_
 rintro r w6 ⟨rfl,rfl⟩
 go_wp2_with fail
 go_ret
 exact⟨rfl,HE.out⟩
end Go.Proofs.YtgaeofgdiaknpaaGreat
