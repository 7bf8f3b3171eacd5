/- Part 48 of the texts on which the proofs of layer 13 rest: contracts of Go functions. -/
import Derived.Test.YtffehehghpafdaaGreatPkB23
import Derived.Test.YtffehehghpafdaaGreatPkB24
import Derived.Test.YtffehehghpafdaaGreatPkB30
import Derived.Test.YtffehehghpafdaaGreatPkB40
import Derived.Test.YtffehehghpafdaaGreatPkB41
import Derived.Test.YtffehehghpafdaaGreatPkB43
import Derived.Test.YtffehehghpafdaaGreatPkB44
import Derived.Test.YtffehehghpafdaaGreatPkB45
import Derived.Test.YtffehehghpafdaaGreatPkB46
namespace Go.Proofs.YtffehehghpafdaaGreat
set_option maxRecDepth 100000
open Go.RowKit Go.Maps Go.Sort Go.Shelf
theorem mtick_neg (b mb:Nat) (n:Int) (w:World) (c0:w.cell? ⟨b,0,none⟩=some (.map (some mb))) (hn:n<0):Calls Tryz.prog 14 #[.pointer (some ⟨b,0,none⟩),.int .i64 n] w fun e w'=>e=.returned (.int .i64 2)∧w'=w:=by
 have hq:=mnone_any b mb w c0
 go_enter Tryz.func14,Tryz.ntmps14
 go_wp2_with (go_at_call 55;refine hq.mono ?_;rintro e w' ⟨rfl,hw⟩;have hw:=hw.symm;subst hw)
 go_ret
 exact⟨rfl,rfl⟩
def tkE (E:List Ent) (N:Int):List Ent:=E.map fun e=>{ e with s:=dtickS e.L.P e.s N }
def xD (E:List Ent) (j:Nat):Dr:=if h:j<E.length then (E[j]).L.dr (E[j]).s else ⟨0,0,0,0,0,P0,dnew M0⟩
theorem xD_get (E:List Ent) (j:Nat) (h:j<E.length):xD E j=(E[j]).L.dr (E[j]).s:=dif_pos h
structure Tkr (w0 w:World) (t0:Nat→Thing) (E:List Ent) (N:Int) (i:Nat):Prop where
 ex:∃ t,Al w0 w t∧(∀ k,(∀ m,m<i→k≠11+2*m)→t k=t0 k)∧∀ m (_:m<i) (hm:m<E.length),∃ U,t (11+2*m)=rwT ((E[m]).L.rr (dtickS (E[m]).L.P (E[m]).s N)) U
section
variable {w0 w w':World} {x b r lost:Nat} {E:List Ent} {t:Nat→Thing} {N:Int}
theorem Wo.tkr (h:Wo w0 w x b r E lost t) (N:Int):Tkr w0 w t E N 0:=⟨t,h.al,fun _ _=>rfl,fun m hm=>by omega⟩
theorem Tkr.below {i:Nat} (h:Tkr w0 w t E N i) (q:Below w.heap.size w w'):Tkr w0 w' t E N i:=by
 obtain⟨t',A,o,d⟩:=h.ex
 exact⟨t',A.below q,o,d⟩
theorem Tkr.get {i k:Nat} (h:Tkr w0 w t E N i) (hk:k<10) {X:Thing} (e:t k=X):X.T w:=by
 obtain⟨t',A,o,d⟩:=h.ex
 exact A.get ((o k (fun m _=>by omega)).trans e)
theorem Tkr.next {w1:World} {i:Nat} (h:Tkr w0 w t E N i) (hW:Wo w0 w1 x b r E lost t) (hi:i<E.length):∃ U,RW w (E[i]).L.e (E[i]).L.r (E[i]).L.q (E[i]).L.n (E[i]).L.mx (E[i]).L.P U (E[i]).s∧∀ U' w',Gr U w U' w'→RW w' (E[i]).L.e (E[i]).L.r (E[i]).L.q (E[i]).L.n (E[i]).L.mx (E[i]).L.P U' (dtickS (E[i]).L.P (E[i]).s N)→Tkr w0 w' t E N (i+1):=by
 obtain⟨t',A,o,d⟩:=h.ex
 obtain⟨U,e⟩:=hW.rw i hi
 have e':=(o (11+2*i) (fun m hm=>by omega)).trans e
 refine⟨U,A.rw e',fun U' w' g y=>⟨_,A.stepR e' g y,fun k hk=>?_,fun m hm hme=>?_⟩⟩
 ·rw[putT_ne _ _ (hk i (by omega))]
  exact o k (fun m hm=>hk m (by omega))
 ·by_cases em:m=i
  ·subst em
   exact⟨U',by rw[putT_same];rfl⟩
  ·rw[putT_ne _ _ (by omega)]
   exact d m (by omega) hme
theorem Wo.ticked {w1:World} (hW:Wo w0 w1 x b r E lost t) {t1 t':Nat→Thing} {V:List Nat} (o1:∀ k,(∀ m,m<E.length→k≠11+2*m)→t1 k=t k) (d1:∀ m (_:m<E.length) (hm:m<E.length),∃ U,t1 (11+2*m)=rwT ((E[m]).L.rr (dtickS (E[m]).L.P (E[m]).s N)) U) (A:Al w0 w' t') (z0:t' 0=mxT b (prts E) lost V) (o2:∀ i,i≠0→(∀ j,j<E.length→i≠10+2*j)→t' i=t1 i) (d2:∀ j (hj:j<E.length),∃ U,t' (10+2*j)=dvT ((E[j]).L.dr (dtickS (E[j]).L.P (E[j]).s N)) U):Wo w0 w' x b r (tkE E N) lost t':=by
 have l:(tkE E N).length=E.length:=by simp[tkE]
 have g:∀ j (hj:j < (tkE E N).length),(tkE E N)[j]={ E[j]'(by rw[← l];exact hj) with s:=dtickS (E[j]'(by rw[← l];exact hj)).L.P (E[j]'(by rw[← l];exact hj)).s N }:=fun j hj=>by simp[tkE]
 have m1:prts (tkE E N)=prts E:=by simp[prts,tkE]
 refine⟨A,⟨V,by rw[z0,m1]⟩,?_,?_,fun j hj=>?_,fun j hj=>?_,by rw[l];exact hW.le,fun e he=>?_⟩
 ·obtain⟨v1,v2,e⟩:=hW.rm
  refine⟨v1,v2,?_⟩
  rw[o2 1 (by omega) (fun j _=>by omega),o1 1 (fun m _=>by omega),e]
  simp[tkE,Function.comp_def]
 ·obtain⟨va,vm,vr,e⟩:=hW.wd
  refine⟨va,vm,vr,?_⟩
  rw[o2 2 (by omega) (fun j _=>by omega),o1 2 (fun m _=>by omega),e]
  simp[tkE,Function.comp_def]
 ·rw[g]
  exact d2 j (by rw[← l];exact hj)
 ·rw[g,o2 _ (by omega) (fun i _=>by omega)]
  exact d1 j (by rw[← l];exact hj) (by rw[← l];exact hj)
 ·obtain⟨j,hj,rfl⟩:=List.getElem_of_mem he
  rw[g]
  have:=hW.pc _ (List.getElem_mem (by rw[← l];exact hj:j<E.length))
  exact this
end
set_option maxHeartbeats 8000000 in
theorem mstep20n (w0 w:World) (x b r:Nat) (E:List Ent) (lost:Nat) (t:Nat→Thing) (pl N fl:Int) (odd:Bool) (a:Option Addr) (len cap:Nat) (p:Int) (y:Nat) (h:Wo w0 w x b r E lost t) (hN:N<0) :
  Calls Tryz.prog 10 #[.pointer (some ⟨x,0,none⟩),.agg #[.int .i64 pl,.int .i64 20,.int .i64 N,.int .i64 fl,.bool odd,.slice a len cap,.int .i64 p,.int .u32 (y:Nat)]] w fun e w'=>e=.returned (.bool true)∧Hid (∃ t',Wo w0 w' x b r E lost t'):=by
 have hB:=h.box #[.int .i64 pl,.int .i64 20,.int .i64 N,.int .i64 fl,.bool odd,.slice a len cap,.int .i64 p,.int .u32 (y:Nat)]
 obtain⟨va,vm,vr,ew⟩:=hB.wd
 have hw:=hB.al.get ew
 obtain⟨ar,cr,n,rfl⟩:=own_sl hw.rr
 have hb:_=_:=hB.al.get (i:=3) (x:=bxT w.heap.size #[.int .i64 pl,.int .i64 20,.int .i64 N,.int .i64 fl,.bool odd,.slice a len cap,.int .i64 p,.int .u32 (y:Nat)]) (putT_same _ _ _)
 have k1:=cell_of_row _ w.heap.size 1 _ _ _ hb
 have k2:=cell_of_row _ w.heap.size 2 _ _ _ hb
 have x4:=cell_of_row _ x 4 _ _ _ hw.blk
 have x0:=cell_of_row _ x 0 _ _ _ hw.blk
 obtain⟨V,em⟩:=hB.mx
 obtain⟨l,mb,nn,D,hM,_⟩:=hB.al.mx em
 have c0:=hM.c0
 have HB:Hid (_):=hB
 have hge:¬ (0:Int)≤N:=by omega
 generalize hw1:w.alloc (.cells #[.int .i64 pl,.int .i64 20,.int .i64 N,.int .i64 fl,.bool odd,.slice a len cap,.int .i64 p,.int .u32 (y:Nat)] 34)=w1 at *
 have q:=mtick_neg b mb N w1.drew c0 hN
 clear hB hw hb h hM c0 em ew
 go_enter Tryz.func10,Tryz.ntmps10
 go_wp2_with fail
 go_loopw [6] (fun c wr=>c=.int .i64 0∧wr=w1) (fun _ _=>0)
 case atStart=>exact⟨rfl,rfl⟩
 case round=>
  obtain⟨rfl,rfl⟩:=hrel
  have S0:wr.drew.cell? ⟨x,0,none⟩=some (.pointer (some ⟨b,0,none⟩))∧wr.drew.cell? ⟨w.heap.size,2,none⟩=some (.int .i64 N):=⟨x0,k2⟩
  have hNn:(0≤N)=False:=by simp;omega
  have hN':decide ((0:Int)≤N)=false:=by simp;omega
  by_cases hn:0<n
  ·have hn1:((0:Int) < (n:Int))=True:=by simp;omega
   go_wp2_with fail
   go_region_held3 (fun w'=>w'.cell? ⟨x,0,none⟩=some (.pointer (some ⟨b,0,none⟩))∧w'.cell? ⟨w.heap.size,2,none⟩=some (.int .i64 N)) (assumption) (first
    | (go_at_call 14;refine q.mono ?_;rintro e w4 ⟨rfl,hw⟩;have hw:=hw.symm;subst hw))
   all_goals
    go_wp2_with fail
    go_ret
    exact⟨by simp,_,HB.out.below (Below.drew (Below.refl _ _))⟩
  ·have hn1:((0:Int) < (n:Int))=False:=by simp;omega
   go_wp2_with fail
   go_region_held3 (fun w'=>w'.cell? ⟨x,0,none⟩=some (.pointer (some ⟨b,0,none⟩))∧w'.cell? ⟨w.heap.size,2,none⟩=some (.int .i64 N)) (assumption) (first
    | (go_at_call 14;refine q.mono ?_;rintro e w4 ⟨rfl,hw⟩;have hw:=hw.symm;subst hw))
   all_goals
    go_wp2_with fail
    go_ret
    exact⟨by simp,_,HB.out.below (Below.drew (Below.refl _ _))⟩
set_option maxHeartbeats 8000000 in
theorem mstep20 (w0 w:World) (x b r:Nat) (E:List Ent) (lost:Nat) (t:Nat→Thing) (pl N fl:Int) (odd:Bool) (a:Option Addr) (len cap:Nat) (p:Int) (y:Nat) (h:Wo w0 w x b r E lost t) (hN0:0≤N) (hN:N≤9223372036854775807) (hL:∀ e,e ∈ E→e.s.L.length<800000) :
  Calls Tryz.prog 10 #[.pointer (some ⟨x,0,none⟩),.agg #[.int .i64 pl,.int .i64 20,.int .i64 N,.int .i64 fl,.bool odd,.slice a len cap,.int .i64 p,.int .u32 (y:Nat)]] w fun e w'=>e=.returned (.bool true)∧Hid (∃ t',Wo w0 w' x b r (tkE E N) lost t'):=by
 have hB:=h.box #[.int .i64 pl,.int .i64 20,.int .i64 N,.int .i64 fl,.bool odd,.slice a len cap,.int .i64 p,.int .u32 (y:Nat)]
 obtain⟨va,vm,vr,ew⟩:=hB.wd
 have hb3:(putT t 3 (bxT w.heap.size #[.int .i64 pl,.int .i64 20,.int .i64 N,.int .i64 fl,.bool odd,.slice a len cap,.int .i64 p,.int .u32 (y:Nat)])) 3=bxT w.heap.size #[.int .i64 pl,.int .i64 20,.int .i64 N,.int .i64 fl,.bool odd,.slice a len cap,.int .i64 p,.int .u32 (y:Nat)]:=putT_same _ _ _
 have hb:_=_:=hB.al.get hb3
 have k1:=cell_of_row _ w.heap.size 1 _ _ _ hb
 have k2:=cell_of_row _ w.heap.size 2 _ _ _ hb
 obtain⟨V,em⟩:=hB.mx
 have hlen:(E.map (·.L.e)).length=E.length:=by simp
 obtain⟨ar,cr,n,er⟩:=own_sl (hB.al.get ew).rr
 have hn:n=E.length:=by
  rcases (hB.al.get ew).rr.2 with ⟨e1,e2⟩ | ⟨g,c,cur,e1,_⟩
  ·rw[e1]at er;simp at er;omega
  ·rw[e1]at er;simp at er;omega
 subst er
 have hRd:∀ wx i,Tkr w0 wx (putT t 3 (bxT w.heap.size #[.int .i64 pl,.int .i64 20,.int .i64 N,.int .i64 fl,.bool odd,.slice a len cap,.int .i64 p,.int .u32 (y:Nat)])) E N i→wx.cell? ⟨x,4,none⟩=some (.slice ar n cr)∧wx.cell? ⟨x,0,none⟩=some (.pointer (some ⟨b,0,none⟩))∧wx.cell? ⟨w.heap.size,2,none⟩=some (.int .i64 N)∧∀ k (hi:k<E.length),∃ gr,ar=some ⟨gr,0,none⟩∧wx.cell? ⟨gr,k,none⟩=some (.pointer (some ⟨(E[k]).L.e,0,none⟩)):=by
  intro wx i hT
  have hw:WD wx x b r va vm (.slice ar n cr) _ _ _:=hT.get (by omega) ew
  have hq:_=_:=hT.get (X:=bxT w.heap.size #[.int .i64 pl,.int .i64 20,.int .i64 N,.int .i64 fl,.bool odd,.slice a len cap,.int .i64 p,.int .u32 (y:Nat)]) (k:=3) (by omega) hb3
  refine⟨cell_of_row _ x 4 _ _ _ hw.blk,cell_of_row _ x 0 _ _ _ hw.blk,cell_of_row _ w.heap.size 2 _ _ _ hq,fun k hi=>?_⟩
  obtain⟨g,c,e,k9⟩:=row_at hw.rr (j:=k) (d:=(E[k]).L.e) (by simp[hi])
  refine⟨g,?_,k9⟩
  simp at e
  exact e.1
 have HR:Hid (_):=And.intro hRd (And.intro hB (And.intro em (And.intro hL hn)))
 have T1:=hB.tkr N
 have h8:=hB.le
 generalize hw1:w.alloc (.cells #[.int .i64 pl,.int .i64 20,.int .i64 N,.int .i64 fl,.bool odd,.slice a len cap,.int .i64 p,.int .u32 (y:Nat)] 34)=w1 at *
 have HT1:Hid (_):=T1
 have hge:(0≤N)=True:=by simp;omega
 have hlt0:(N<0)=False:=by simp;omega
 have hN8:n≤8:=by omega
 clear hB hb h em ew hRd T1 hb3 hlen hn h8 hL
 go_enter Tryz.func10,Tryz.ntmps10
 go_wp2_with fail
 go_loopw [6] (fun c wr=>∃ i:Nat,i≤n∧c=.int .i64 ((i:Nat):Int)∧Hid (Tkr w0 wr (putT t 3 (bxT w.heap.size #[.int .i64 pl,.int .i64 20,.int .i64 N,.int .i64 fl,.bool odd,.slice a len cap,.int .i64 p,.int .u32 (y:Nat)])) E N i)) (fun c _=>n-natU c)
 case atStart=>exact⟨0,by omega,rfl,HT1⟩
 case round=>
  obtain⟨i,hi,rfl,HT⟩:=hrel
  clear HT1 k1 k2 hw1
  obtain⟨x4,x0,bN,hrow⟩:=HR.out.1 wr i HT.out
  by_cases hlt:i<n
  ·have hil:i<E.length:=by have:=HR.out.2.2.2.2;omega
   obtain⟨gr,rfl,hg⟩:=hrow i hil
   obtain⟨U,hd,hk⟩:=(HT.out.below (w':=wr.drew) (Below.drew (Below.refl _ _))).next HR.out.2.1 hil
   have q:=rvtick_any _ _ _ _ _ _ U _ N wr.drew hd hN (HR.out.2.2.2.1 _ (List.getElem_mem hil))
   have hlt':(i:Int) < (n:Int):=by omega
   have hde:∃ de,de=(E[i]).L.e:=⟨_,rfl⟩
   obtain⟨de,hde⟩:=hde
   rw[← hde]at q hg hk
   have HK:Hid (_):=And.intro hk hde
   have S0:wr.drew.cell? ⟨x,4,none⟩=some (.slice (some ⟨gr,0,none⟩) n cr)∧wr.drew.cell? ⟨gr,i,none⟩=some (.pointer (some ⟨de,0,none⟩))∧wr.drew.cell? ⟨w.heap.size,2,none⟩=some (.int .i64 N):=⟨x4,hg,bN⟩
   clear hrow x0 hd hk hde
   go_wp2_with fail
   go_region_held3 (fun w'=>w'.cell? ⟨x,4,none⟩=some (.slice (some ⟨gr,0,none⟩) n cr)∧w'.cell? ⟨gr,i,none⟩=some (.pointer (some ⟨de,0,none⟩))∧w'.cell? ⟨w.heap.size,2,none⟩=some (.int .i64 N)) (assumption) (first
    | (go_at_call 16;refine q.mono ?_;rintro e w4 ⟨rfl,h4⟩;have T4:Hid (Tkr w0 w4 (putT t 3 (bxT w.heap.size #[.int .i64 pl,.int .i64 20,.int .i64 N,.int .i64 fl,.bool odd,.slice a len cap,.int .i64 p,.int .u32 (y:Nat)])) E N (i+1)):=(by obtain⟨U',g4,y4⟩:=h4.out;exact HK.out.1 U' w4 g4 y4);have HS4:w4.cell? ⟨x,4,none⟩=some (.slice (some ⟨gr,0,none⟩) n cr)∧w4.cell? ⟨gr,i,none⟩=some (.pointer (some ⟨de,0,none⟩))∧w4.cell? ⟨w.heap.size,2,none⟩=some (.int .i64 N):=(by obtain⟨z4,_,z2,zr⟩:=HR.out.1 w4 (i+1) T4.out;obtain⟨g',e',k'⟩:=zr i (by have:=HR.out.2.2.2.2;omega);simp at e';subst e';rw[← HK.out.2]at k';exact⟨z4,k',z2⟩)))
   all_goals
    clear S0 HS4 q x4 hg bN HK HT
    go_wp2_with fail
    go_roundw
    case rel=>exact⟨i+1,by omega,by go_num,T4⟩
    case measure=>simp[natU] <;> omega
  ·obtain rfl:i=n:=by omega
   have hlt':((i:Int) < (i:Int))=False:=by simp
   have hie:i=E.length:=HR.out.2.2.2.2
   obtain⟨t1,A1,o1,d1⟩:=(HT.out.below (w':=wr.drew) (Below.drew (Below.refl _ _))).ex
   have e0:t1 0=mxT b (prts E) lost V:=(o1 0 (fun m _=>by omega)).trans HR.out.2.2.1
   have q:=mtick_any w0 wr.drew t1 b (prts E) lost V N hN0 hN A1 e0 (xD E) (fun j=>10+2*j) (fun j _=>by omega) (fun i j _ _ e=>by omega) (fun j hj=>by
    have hj':j<E.length:=by rw[← prts_len];exact hj
    obtain⟨U,eU⟩:=HR.out.2.1.dv j hj'
    refine⟨⟨U,?_⟩,?_,?_⟩
    ·rw[o1 _ (fun m _=>by omega),eU,xD_get E j hj']
    ·rw[xD_get E j hj',prts_get];rfl
    ·rw[xD_get E j hj'];exact HR.out.2.2.2.1 _ (List.getElem_mem hj'))
   have HD:Hid (_):=And.intro o1 d1
   have S0:wr.drew.cell? ⟨x,0,none⟩=some (.pointer (some ⟨b,0,none⟩))∧wr.drew.cell? ⟨w.heap.size,2,none⟩=some (.int .i64 N):=⟨x0,bN⟩
   clear hrow o1 d1 A1 e0
   go_wp2_with fail
   go_region_held3 (fun w'=>w'.cell? ⟨x,0,none⟩=some (.pointer (some ⟨b,0,none⟩))∧w'.cell? ⟨w.heap.size,2,none⟩=some (.int .i64 N)) (assumption) (first
    | (go_at_call 14;refine q.mono ?_;rintro e w4 ⟨rfl,h4⟩;have W4:Hid (∃ t',Wo w0 w4 x b r (tkE E N) lost t'):=(by
        obtain⟨t4,A4,z4,o4,d4⟩:=h4.out
        refine⟨t4,HR.out.2.1.ticked (fun k hk=>HD.out.1 k (fun m hm=>hk m (by omega))) (fun m _ hm=>HD.out.2 m (by omega) hm) A4 z4 (fun k h1 h2=>o4 k h1 (fun j hj=>h2 j (by rw[← prts_len];exact hj))) (fun j hj=>?_)⟩
        obtain⟨U,eU⟩:=d4 j (by rw[prts_len];exact hj)
        rw[xD_get E j hj]at eU
        exact⟨U,eU⟩);have S4:w4.cell? ⟨x,0,none⟩=some (.pointer (some ⟨b,0,none⟩))∧w4.cell? ⟨w.heap.size,2,none⟩=some (.int .i64 N):=(by
        obtain⟨t4,A4,z4,o4,d4⟩:=h4.out
        obtain⟨va,vm,vr,ew⟩:=HR.out.2.1.wd
        have f2:=(o4 2 (by omega) (fun j _=>by omega)).trans (HD.out.1 2 (fun m _=>by omega))
        have f3:=(o4 3 (by omega) (fun j _=>by omega)).trans (HD.out.1 3 (fun m _=>by omega))
        have hq:_=_:=A4.get (f3.trans (putT_same _ _ _))
        exact⟨cell_of_row _ x 0 _ _ _ (A4.get (f2.trans ew)).blk,cell_of_row _ w.heap.size 2 _ _ _ hq⟩)))
   all_goals
    go_wp2_with fail
    go_ret
    exact⟨by simp,W4⟩
end Go.Proofs.YtffehehghpafdaaGreat
namespace Go.Proofs.YtffehehghpafdaaGreat
set_option maxRecDepth 100000
open Go.RowKit Go.Maps Go.Sort Go.Shelf
set_option maxHeartbeats 8000000 in
theorem mstepN (w0 w:World) (x b r:Nat) (E:List Ent) (lost:Nat) (t:Nat→Thing) (n j:Nat) (en:Ent) (pl K N fl:Int) (odd:Bool) (a:Option Addr) (len cap:Nat) (bs:Nat→Nat) (p:Int) (y:Nat) (h:Wo w0 w x b r E lost t) (hn:E.length=n) (hE:0<n) (hj:plJ pl n=j) (he:E[j]?=some en) (hr:Row8 w a len cap bs) (hl:∀ z,a=some z→0<len→z.block<w0.heap.size) (hss:en.s.ss<4294967296) (hK:¬ (1≤K∧K≤8)∧K≠10∧K≠11∧K≠12∧K≠20) :
  Calls Tryz.prog 10 #[.pointer (some ⟨x,0,none⟩),.agg #[.int .i64 pl,.int .i64 K,.int .i64 N,.int .i64 fl,.bool odd,.slice a len cap,.int .i64 p,.int .u32 (y:Nat)]] w fun e w'=>e=.returned (.bool true)∧Hid (∃ t',Wo w0 w' x b r (setE E j (en.s)) lost t'):=by
 have hB:=h.box #[.int .i64 pl,.int .i64 K,.int .i64 N,.int .i64 fl,.bool odd,.slice a len cap,.int .i64 p,.int .u32 (y:Nat)]
 have S0:=hB.stp' he
 obtain⟨ga,ca,gm,cm,gr,cr,hx⟩:=hB.reads' hn he (putT_same _ _ _)
 have X0:=hx _ _ _ S0
 obtain⟨PP,q1,q2,q3,q4,q5⟩:=plJ_facts pl n hE (hn ▸ h.le)
 rw[hj]at q2 q4 q5
 have k0:=cell_of_row _ w.heap.size 0 _ _ _ X0.bx
 have k1:=cell_of_row _ w.heap.size 1 _ _ _ X0.bx
 have k4:=X0.c4
 have hjn:(j:Int) < (n:Int):=by have:=plJ_lt pl n hE;omega
 have hn0:¬ (n:Int)=0:=by omega
 have hk20:(K=20)=False:=by simp;omega
 have hR:=hr.both hl h.al.bel hB.al.bel
 have cF:∀ wx,Stp w0 wx (putT t 3 (bxT w.heap.size #[.int .i64 pl,.int .i64 K,.int .i64 N,.int .i64 fl,.bool odd,.slice a len cap,.int .i64 p,.int .u32 (y:Nat)])) j (en.L.dr en.s) (en.L.rr en.s)→Calls Tryz.prog 13 #[.pointer (some ⟨en.L.e,0,none⟩),.agg #[.int .i64 K,.int .i64 N,.int .i64 fl,.bool odd,.slice a len cap,.int .i64 p,.int .u32 (y:Nat)]] wx fun e w'=>e=.returned (.tuple #[.slice none 0 0,.bool false])∧Stp w0 w' (putT t 3 (bxT w.heap.size #[.int .i64 pl,.int .i64 K,.int .i64 N,.int .i64 fl,.bool odd,.slice a len cap,.int .i64 p,.int .u32 (y:Nat)])) j (en.L.dr en.s) (en.L.rr en.s):=by
  intro wx hs
  obtain⟨V,hv,_⟩:=hs.ref
  refine (frameN_any en.L.e en.L.r en.L.q en.L.n en.L.mx en.L.P V en.s K N fl odd a len cap bs p y wx hv (hr.both hl h.al.bel hs.bel) (fun z hz h0=>Nat.lt_of_lt_of_le (hl z hz h0) hs.bel.size) hss (by omega)).mono ?_
  rintro e w' ⟨rfl,b2⟩
  exact⟨rfl,hs.below b2⟩
 have HW:Hid (_):=And.intro hB (And.intro S0 (And.intro hx he))
 generalize hw1:w.alloc (.cells #[.int .i64 pl,.int .i64 K,.int .i64 N,.int .i64 fl,.bool odd,.slice a len cap,.int .i64 p,.int .u32 (y:Nat)] 34)=w1 at *
 clear hB X0 hr hl hss he h hn hj hE hR
 go_enter Tryz.func10,Tryz.ntmps10
 go_wp2_with fail
 go_quiet (fail)
 have P1:Hid (_):=S0.below (below_drewNB' (Below.refl _ w1) nq)
 clear S0 k0 k1 k4 q1 q2 q3 q4 q5 hw1
 generalize w1.drewN nq=w2 at *
 go_wp2_with fail
 have HS:(w2.drew.cell? ⟨x,4,none⟩=some (.slice (some ⟨gr,0,none⟩) n cr)∧w2.drew.cell? ⟨gr,j,none⟩=some (.pointer (some ⟨en.L.e,0,none⟩))∧w2.drew.cell? ⟨w.heap.size,1,none⟩=some (.int .i64 K)∧w2.drew.cell? ⟨w.heap.size,2,none⟩=some (.int .i64 N)∧w2.drew.cell? ⟨w.heap.size,3,none⟩=some (.int .i64 fl)∧w2.drew.cell? ⟨w.heap.size,4,none⟩=some (.bool odd)∧w2.drew.cell? ⟨w.heap.size,5,none⟩=some (.slice a len cap)∧w2.drew.cell? ⟨w.heap.size,6,none⟩=some (.int .i64 p)∧w2.drew.cell? ⟨w.heap.size,7,none⟩=some (.int .u32 (y:Nat))):=by
  have X:=HW.out.2.2.1 _ _ _ P1.out.drew
  exact⟨X.c4,X.r4,cell_of_row _ w.heap.size 1 _ _ _ X.bx,cell_of_row _ w.heap.size 2 _ _ _ X.bx,cell_of_row _ w.heap.size 3 _ _ _ X.bx,cell_of_row _ w.heap.size 4 _ _ _ X.bx,cell_of_row _ w.heap.size 5 _ _ _ X.bx,cell_of_row _ w.heap.size 6 _ _ _ X.bx,cell_of_row _ w.heap.size 7 _ _ _ X.bx⟩
 have P2:Hid (_):=P1.out.drew
 clear P1
 go_region_held3 (fun w'=>w'.cell? ⟨x,4,none⟩=some (.slice (some ⟨gr,0,none⟩) n cr)∧w'.cell? ⟨gr,j,none⟩=some (.pointer (some ⟨en.L.e,0,none⟩))∧w'.cell? ⟨w.heap.size,1,none⟩=some (.int .i64 K)∧w'.cell? ⟨w.heap.size,2,none⟩=some (.int .i64 N)∧w'.cell? ⟨w.heap.size,3,none⟩=some (.int .i64 fl)∧w'.cell? ⟨w.heap.size,4,none⟩=some (.bool odd)∧w'.cell? ⟨w.heap.size,5,none⟩=some (.slice a len cap)∧w'.cell? ⟨w.heap.size,6,none⟩=some (.int .i64 p)∧w'.cell? ⟨w.heap.size,7,none⟩=some (.int .u32 (y:Nat))) (assumption) (first
  | (go_at_call 13;refine (cF _ P2.out).mono ?_;rintro e w3 ⟨rfl,h2⟩;have HT:(w3.cell? ⟨x,4,none⟩=some (.slice (some ⟨gr,0,none⟩) n cr)∧w3.cell? ⟨gr,j,none⟩=some (.pointer (some ⟨en.L.e,0,none⟩))∧w3.cell? ⟨w.heap.size,1,none⟩=some (.int .i64 K)∧w3.cell? ⟨w.heap.size,2,none⟩=some (.int .i64 N)∧w3.cell? ⟨w.heap.size,3,none⟩=some (.int .i64 fl)∧w3.cell? ⟨w.heap.size,4,none⟩=some (.bool odd)∧w3.cell? ⟨w.heap.size,5,none⟩=some (.slice a len cap)∧w3.cell? ⟨w.heap.size,6,none⟩=some (.int .i64 p)∧w3.cell? ⟨w.heap.size,7,none⟩=some (.int .u32 (y:Nat))):=(by have X:=HW.out.2.2.1 _ _ _ h2;exact⟨X.c4,X.r4,cell_of_row _ w.heap.size 1 _ _ _ X.bx,cell_of_row _ w.heap.size 2 _ _ _ X.bx,cell_of_row _ w.heap.size 3 _ _ _ X.bx,cell_of_row _ w.heap.size 4 _ _ _ X.bx,cell_of_row _ w.heap.size 5 _ _ _ X.bx,cell_of_row _ w.heap.size 6 _ _ _ X.bx,cell_of_row _ w.heap.size 7 _ _ _ X.bx⟩);have P3:Hid (_):=h2;clear h2))
 all_goals
  have kk:=cell_of_row _ w.heap.size 1 _ _ _ (HW.out.2.2.1 _ _ _ P3.out).bx
  clear cF HS HT P2
  have n8:(K=8)=False:=by simp;omega
  have n10:(K=10)=False:=by simp;omega
  have n11:(K=11)=False:=by simp;omega
  have n12:(K=12)=False:=by simp;omega
  go_wp2_with fail
  go_ret
  exact⟨rfl,HW.out.1.set' HW.out.2.2.2 P3.out⟩
set_option maxHeartbeats 2000000 in
theorem mstepE (w0 w:World) (x b r:Nat) (lost:Nat) (t:Nat→Thing) (pl K N fl:Int) (odd:Bool) (a:Option Addr) (len cap:Nat) (p:Int) (y:Nat) (h:Wo w0 w x b r [] lost t) (hK:K≠20) :
  Calls Tryz.prog 10 #[.pointer (some ⟨x,0,none⟩),.agg #[.int .i64 pl,.int .i64 K,.int .i64 N,.int .i64 fl,.bool odd,.slice a len cap,.int .i64 p,.int .u32 (y:Nat)]] w fun e w'=>e=.returned (.bool true)∧Hid (∃ t',Wo w0 w' x b r [] lost t'):=by
 have hB:=h.box #[.int .i64 pl,.int .i64 K,.int .i64 N,.int .i64 fl,.bool odd,.slice a len cap,.int .i64 p,.int .u32 (y:Nat)]
 obtain⟨va,vm,vr,ew⟩:=hB.wd
 have hw:=hB.al.get ew
 obtain⟨ar,cr,n,rfl⟩:=own_sl hw.rr
 have hn:n=0:=by
  rcases hw.rr.2 with ⟨e1,e2⟩ | ⟨g,c,cur,e1,_⟩
  ·simp at e1;omega
  ·simp at e1;omega
 subst hn
 have hb:_=_:=hB.al.get (i:=3) (x:=bxT w.heap.size #[.int .i64 pl,.int .i64 K,.int .i64 N,.int .i64 fl,.bool odd,.slice a len cap,.int .i64 p,.int .u32 (y:Nat)]) (putT_same _ _ _)
 have k1:=cell_of_row _ w.heap.size 1 _ _ _ hb
 have x4:=cell_of_row _ x 4 _ _ _ hw.blk
 have HB:Hid (_):=hB
 have hk20:(K=20)=False:=by simp;omega
 generalize hw1:w.alloc (.cells #[.int .i64 pl,.int .i64 K,.int .i64 N,.int .i64 fl,.bool odd,.slice a len cap,.int .i64 p,.int .u32 (y:Nat)] 34)=w1 at *
 clear hB hw hb h ew
 go_enter Tryz.func10,Tryz.ntmps10
 go_wp2_with fail
 go_ret
 exact⟨rfl,_,HB.out⟩
def Bd (N:Nat) (E:List Ent) (lost:Nat):Prop:=lost≤N∧∀ e,e ∈ E→Iv e.L.P e.s∧e.s.L.length≤3*N∧e.s.ms.t≤6*N∧e.n≤N
theorem Bd.same {N:Nat} {E:List Ent} {lost:Nat} (h:Bd N E lost):Bd (N+1) E lost:=⟨by have:=h.1;omega,fun e he=>by
 obtain⟨a,b,c,d⟩:=h.2 e he
 exact⟨a,by omega,by omega,by omega⟩⟩
theorem Bd.setE {N:Nat} {E:List Ent} {lost j:Nat} {en:Ent} {s:Sd} (h:Bd N E lost) (he:E[j]?=some en) (hv:Iv en.L.P s) (hg:Gw en.s s):Bd (N+1) (Go.Proofs.YtffehehghpafdaaGreat.setE E j s) lost:=by
 refine⟨by have:=h.1;omega,fun e hm=>?_⟩
 obtain⟨i,hi,rfl⟩:=List.getElem_of_mem hm
 obtain⟨hj,hje⟩:=List.getElem?_eq_some_iff.1 he
 rw[setE_get]
 by_cases e:i=j
 ·subst e
  rw[if_pos rfl]
  obtain⟨a,b,c,d⟩:=h.2 _ (List.getElem_mem hj)
  rw[hje]at a b c d ⊢
  obtain⟨g1,g2⟩:=hg
  exact⟨hv,by show s.L.length≤_;omega,by show s.ms.t≤_;omega,by show en.n≤_;omega⟩
 ·rw[if_neg e]
  exact h.same.2 _ (List.getElem_mem _)
theorem Bd.setN {N:Nat} {E:List Ent} {lost j:Nat} {en:Ent} {s:Sd} (h:Bd N E lost) (he:E[j]?=some en) (hv:Iv en.L.P s) (hg:Gw en.s s):Bd (N+1) (Go.Proofs.YtffehehghpafdaaGreat.setN E j s) lost:=by
 refine⟨by have:=h.1;omega,fun e hm=>?_⟩
 obtain⟨i,hi,rfl⟩:=List.getElem_of_mem hm
 obtain⟨hj,hje⟩:=List.getElem?_eq_some_iff.1 he
 rw[setN_get]
 by_cases e:i=j
 ·subst e
  rw[if_pos rfl]
  obtain⟨a,b,c,d⟩:=h.2 _ (List.getElem_mem hj)
  rw[hje]at a b c d ⊢
  obtain⟨g1,g2⟩:=hg
  exact⟨hv,by show s.L.length≤_;omega,by show s.ms.t≤_;omega,by show en.n+1≤_;omega⟩
 ·rw[if_neg e]
  exact h.same.2 _ (List.getElem_mem _)
theorem Bd.tkE {M:Nat} {E:List Ent} {lost:Nat} (h:Bd M E lost) (N:Int):Bd (M+1) (Go.Proofs.YtffehehghpafdaaGreat.tkE E N) lost:=by
 refine⟨by have:=h.1;omega,fun e hm=>?_⟩
 obtain⟨e0,he0,rfl⟩:=List.mem_map.1 hm
 obtain⟨a,b,c,d⟩:=h.2 e0 he0
 obtain⟨g1,g2⟩:=gw_tick (P:=e0.L.P) (s:=e0.s) N
 exact⟨a.tick N,by show (dtickS e0.L.P e0.s N).L.length≤_;omega,by show (dtickS e0.L.P e0.s N).ms.t≤_;omega,by show e0.n≤_;omega⟩
theorem Wo.mo {w0 w:World} {x b r lost:Nat} {E:List Ent} {t:Nat→Thing} (h:Wo w0 w x b r E lost t) {j:Nat} {en:Ent} (he:E[j]?=some en):Mo en.L.mx en.L.n en.s∧Pok en.L.P:=by
 obtain⟨U,hd,_⟩:=(h.stp' he).dev
 obtain⟨B,y⟩:=id hd
 exact⟨Mo.of hd,y.pok⟩
set_option maxHeartbeats 2000000 in
theorem mstep_any (w0 w:World) (x b r:Nat) (E:List Ent) (lost:Nat) (t:Nat→Thing) (M:Nat) (pl K N fl:Int) (odd:Bool) (a:Option Addr) (len cap:Nat) (bs:Nat→Nat) (p:Int) (y:Nat) (h:Wo w0 w x b r E lost t) (hr:Row8 w a len cap bs) (hl:∀ z,a=some z→0<len→z.block<w0.heap.size) (hlen:len≤140737488351232) (hN:N≤9223372036854775807) (hy:y<4294967296) (hB:Bd M E lost) (hM:M≤1000) :
  Calls Tryz.prog 10 #[.pointer (some ⟨x,0,none⟩),.agg #[.int .i64 pl,.int .i64 K,.int .i64 N,.int .i64 fl,.bool odd,.slice a len cap,.int .i64 p,.int .u32 (y:Nat)]] w fun e w'=>e=.returned (.bool true)∧Hid (∃ E' lost' t',Wo w0 w' x b r E' lost' t'∧Bd (M+1) E' lost'):=by
 by_cases h20:K=20
 ·subst h20
  by_cases hn:N<0
  ·refine (mstep20n w0 w x b r E lost t pl N fl odd a len cap p y h hn).mono ?_
   rintro e w' ⟨rfl,h5⟩
   obtain⟨t',h6⟩:=h5.out
   exact⟨rfl,E,lost,t',h6,hB.same⟩
  ·refine (mstep20 w0 w x b r E lost t pl N fl odd a len cap p y h (by omega) hN (fun e he=>by have:=(hB.2 e he).2.1;omega)).mono ?_
   rintro e w' ⟨rfl,h5⟩
   obtain⟨t',h6⟩:=h5.out
   exact⟨rfl,_,lost,t',h6,hB.tkE N⟩
 ·by_cases h0:E.length=0
  ·obtain rfl:=List.eq_nil_of_length_eq_zero h0
   refine (mstepE w0 w x b r lost t pl K N fl odd a len cap p y h h20).mono ?_
   rintro e w' ⟨rfl,h5⟩
   obtain⟨t',h6⟩:=h5.out
   exact⟨rfl,[],lost,t',h6,hB.same⟩
  ·have hp:0<E.length:=by omega
   have hj:=plJ_lt pl E.length hp
   have he:E[plJ pl E.length]?=some (E[plJ pl E.length]):=List.getElem?_eq_getElem hj
   generalize E[plJ pl E.length]=en at he
   generalize hjj:plJ pl E.length=j at *
   obtain⟨hv,hb1,hb2,hb3⟩:=hB.2 en (List.mem_of_getElem? he)
   obtain⟨mo,hP⟩:=h.mo he
   have hss:=hv.ss
   by_cases h7:1≤K∧K≤7
   ·refine (mstepF w0 w x b r E lost t E.length j en pl K N fl odd a len cap bs p y h rfl hp hjj he hr hl hlen hy h7 (by have:=hB.1;omega) (fun e hm=>by
     obtain⟨c1,c2,c3,c4⟩:=hB.2 e hm
     exact⟨c1,by omega,by omega,by omega⟩)).mono ?_
    rintro e w' ⟨rfl,h5⟩
    obtain⟨f,E',lost',t',h6,_,_,hR⟩:=h5.out
    refine⟨rfl,E',lost',t',h6,?_⟩
    rcases hR with ⟨_,rfl,rfl⟩ | ⟨jj,ee,hee,_,_,rfl,rfl⟩
    ·exact⟨by have:=hB.1;omega,hB.same.2⟩
    ·obtain⟨c1,_⟩:=hB.2 ee (List.mem_of_getElem? hee)
     obtain⟨mo',hP'⟩:=h.mo hee
     exact hB.setN hee (c1.recv hP' mo' _ _) (gw_recv mo' _ _)
   ·by_cases h8:K=8
    ·subst h8
     refine (mstep8 w0 w x b r E lost t E.length j en pl N fl odd a len cap bs p y h rfl hp hjj he hr hl hss hN (by omega)).mono ?_
     rintro e w' ⟨rfl,h5⟩
     obtain⟨t',h6⟩:=h5.out
     exact⟨rfl,_,lost,t',h6,hB.setE he (hv.tick N) (gw_tick N)⟩
    ·by_cases h10:K=10
     ·subst h10
      refine (mstep10 w0 w x b r E lost t E.length j en pl N fl odd a len cap bs p y h rfl hp hjj he hr hl hss).mono ?_
      rintro e w' ⟨rfl,h5⟩
      obtain⟨t',h6⟩:=h5.out
      exact⟨rfl,_,lost,t',h6,hB.setE he hv.ack gw_ack⟩
     ·by_cases h11:K=11
      ·subst h11
       refine (mstep11 w0 w x b r E lost t E.length j en pl N fl odd a len cap bs p y h rfl hp hjj he hr hl hss hN (by omega)).mono ?_
       rintro e w' ⟨rfl,h5⟩
       obtain⟨t',h6⟩:=h5.out
       exact⟨rfl,_,lost,t',h6,hB.setE he (hv.reset N) (gw_reset mo N)⟩
      ·by_cases h12:K=12
       ·subst h12
        refine (mstep12 w0 w x b r E lost t E.length j en pl N fl odd a len cap bs p y h rfl hp hjj he hr hl hss hN).mono ?_
        rintro e w' ⟨rfl,h5⟩
        obtain⟨t',h6⟩:=h5.out
        exact⟨rfl,_,lost,t',h6,hB.setE he (hv.arm N) (gw_arm N)⟩
       ·refine (mstepN w0 w x b r E lost t E.length j en pl K N fl odd a len cap bs p y h rfl hp hjj he hr hl hss ⟨by omega,h10,h11,h12,h20⟩).mono ?_
        rintro e w' ⟨rfl,h5⟩
        obtain⟨t',h6⟩:=h5.out
        exact⟨rfl,_,lost,t',h6,hB.setE he hv ⟨by omega,by omega⟩⟩
set_option maxHeartbeats 2000000 in
theorem mon_any (b:Nat) (L:List Prt) (lost:Nat) (V:List Nat) (w:World) (h:Mxx w b L lost V) (hL:L.length≤12) (x:Nat→Dr) (on:Int→Bool) (hD:∀ j (hj:j<L.length),(∃ U,DV w (x j).d (x j).m (x j).g (x j).n (x j).mx (x j).P U (x j).s)∧(x j).d=(L[j]).d∧on ((L[j]).c:Nat)=von (x j).s.v) :
  Calls Tryz.prog 27 #[.pointer (some ⟨b,0,none⟩)] w fun e w'=>∃ (v:Value) (ls:List Int),e=.returned v∧Hid (ls.Perm ((cdsM L).filter on)∧ls.Pairwise (· ≤ ·)∧w'.ownsRow w.heap.size 30 1 v ls.length (ls.map encU)∧Below w.heap.size w w'):=by
 have hC:=mcodes_any b L lost V w h hL
 have hfd:=prt_dev
 obtain⟨l,mb,nn,D,hM,hV⟩:=h
 have H:Hid (_):=And.intro hM hD
 clear hM hD hV
 go_enter Tryz.func27,Tryz.ntmps27
 go_wp2_with (go_at_call 24;refine hC.mono ?_;rintro e w1 ⟨v,ls,rfl,h1⟩;obtain⟨a,cap,rfl,hcs⟩:=own_cellsU h1.out.2.2.1)
 obtain⟨n,en⟩:∃ n,n=ls.length:=⟨_,rfl⟩
 have HN:Hid (n=ls.length):=en
 have HC:Hid (_):=And.intro hcs h1.out
 have hn12:n≤12:=by rw[en,h1.out.1.length_eq];simpa [cdsM] using hL
 rw[← en]
 clear en hcs h1 hC
 go_loopw [3,5,9] (fun v _ c wr=>∃ i:Nat,i≤n∧c=.int .i64 ((i:Nat):Int)∧Hid (wr.ownsRow w1.heap.size 30 1 v ((ls.take i).filter on).length (((ls.take i).filter on).map encU)∧Below w1.heap.size w1 wr)) (fun _ _ c _=>n-natU c)
 case atStart=>exact⟨0,by omega,rfl,World.ownsRow_nil _ _ _ _,Below.refl _ _⟩
 case round=>
  obtain⟨i,hi,rfl,HR⟩:=hrel
  by_cases hlt:i<n
  ·have hil:i<ls.length:=by rw[← HN.out];exact hlt
   obtain⟨g,rfl,hg,d1⟩:=HC.out.1 i hil
   have b1:=HC.out.2.2.2.2.2
   have d2:wr.cell? ⟨g,i,none⟩=some (.int .u32 ls[i]):=(World.cell?_of_block (HR.out.2.block g hg)).trans d1
   have bw:Below w.heap.size w wr:=b1.trans (HR.out.2.mono b1.size)
   have hMr:=H.out.1.off (o:=[]) (Off.of_below bw) (by simp)
   have c0:=hMr.c0
   have hmem:ls[i] ∈ cdsM L:=HC.out.2.1.mem_iff.1 (List.getElem_mem hil)
   obtain⟨p,hp,hpe⟩:=List.mem_map.1 hmem
   obtain⟨j,hj,rfl⟩:=List.getElem_of_mem hp
   obtain⟨⟨U,hDV⟩,hd,hon⟩:=H.out.2 j hj
   have hk:=hMr.look (L[j]).c (hMr.met _ (List.getElem_mem hj)).2.2
   unfold fndq at hk
   rw[fnd_get hMr.one j hj]at hk
   change _=Result.ok (Value.agg #[Value.pointer (some ⟨(L[j]).d,0,none⟩),Value.pointer (some ⟨(L[j]).k,0,none⟩)]) _ at hk
   have hSee:=seeS_any _ _ _ _ _ _ _ _ wr (hDV.below bw)
   rw[hd]at hSee
   have et:ls.take (i+1)=ls.take i ++ [ls[i]]:=List.take_succ_eq_append_getElem hil
   rw[← hpe]at d2 et
   have HF:Hid (_):=And.intro et (And.intro hon hj)
   generalize (x j).s=s at *
   generalize (x j).P=P at *
   generalize (L[j]).d=dd at *
   generalize (L[j]).k=kk at *
   have hcl:=(hMr.met _ (List.getElem_mem hj)).2.2
   generalize (L[j]).c=cc at *
   have hlen:((ls.take i).filter on).length<100000:=Nat.lt_of_le_of_lt (List.length_filter_le _ _) (by simp;omega)
   clear et hon hp hpe hmem hDV hMr bw d1
   have hcl:i<12:=by omega
   cases hv:von s.v with
   | true=>
    rw[hv]at hSee
    have hfl:∀ a9 c9 w,(Instr.field 76 (.agg #[.int .i64 (s.st:Nat),.int .u32 (s.ss:Nat),.int .u32 (s.nm:Nat),.int .u32 (s.sn:Nat),.int .i64 (s.dc:Nat),.int .i64 s.v.lat,.bool (vreq s.v),.bool true,.slice a9 P.o c9]) 7).run Tryz.prog w=.ok (.bool true) w:=fun a9 c9 w=>by kernel_rfl
    go_wp2_with (first
     | (go_at_call 21;refine hSee.mono ?_;rintro e w3 ⟨a9,c9,rfl,h9⟩)
     | (at_builtin;refine step_one rfl (.tmp 22) (.tmp 24) rfl w1 _ ((ls.take i).filter on) (cc:Nat) w3.heap.size rfl rfl (own_below (own_below HR.out.1 h9.out.2.2) ((Below.refl _ _).alloc (Nat.le_refl _) _)) (heap_alloc_new w3 _) hlen ((HR.out.2.trans (h9.out.2.2.mono HR.out.2.size)).alloc (Nat.le_trans HR.out.2.size h9.out.2.2.size) _) ?_;intro v' w4 H4))
    go_roundw
    case rel=>
     refine⟨i+1,by omega,by go_num,?_⟩
     obtain⟨et,hon,_⟩:=HF.out
     rw[et,List.filter_append,List.filter_cons,hon,hv]
     exact H4
    case measure=>simp[natU] <;> omega
   | false=>
    rw[hv]at hSee
    have hfl:∀ a9 c9 w,(Instr.field 76 (.agg #[.int .i64 (s.st:Nat),.int .u32 (s.ss:Nat),.int .u32 (s.nm:Nat),.int .u32 (s.sn:Nat),.int .i64 (s.dc:Nat),.int .i64 s.v.lat,.bool (vreq s.v),.bool false,.slice a9 P.o c9]) 7).run Tryz.prog w=.ok (.bool false) w:=fun a9 c9 w=>by kernel_rfl
    go_wp2_with (first
     | (go_at_call 21;refine hSee.mono ?_;rintro e w3 ⟨a9,c9,rfl,h9⟩))
    go_roundw
    case rel=>
     refine⟨i+1,by omega,by go_num,?_⟩
     obtain⟨et,hon,_⟩:=HF.out
     rw[et,List.filter_append,List.filter_cons,hon,hv]
     simp only[Bool.false_eq_true,if_false,List.filter_nil,List.append_nil]
     exact⟨own_below HR.out.1 h9.out.2.2,HR.out.2.trans (h9.out.2.2.mono HR.out.2.size)⟩
    case measure=>simp[natU] <;> omega
  ·obtain rfl:i=n:=by omega
   go_wp2_with fail
   go_ret
   have e:ls.take i=ls:=List.take_of_length_le (by have:=HN.out;omega)
   have h5:=HR.out
   rw[e]at h5
   obtain⟨_,hp,hup,hrow,_,b1⟩:=HC.out
   exact⟨_,ls.filter on,rfl,hp.filter on,hup.filter on,own_baseU h5.1 b1.size,b1.trans (h5.2.mono b1.size)⟩
end Go.Proofs.YtffehehghpafdaaGreat
