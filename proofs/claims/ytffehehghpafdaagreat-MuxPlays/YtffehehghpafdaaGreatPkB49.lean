/- Part 50 of the texts on which the proofs of layer 13 rest: contracts of Go functions. -/
import Derived.Test.YtffehehghpafdaaGreatPkB16
import Derived.Test.YtffehehghpafdaaGreatPkB40
import Derived.Test.YtffehehghpafdaaGreatPkB47
import Derived.Test.YtffehehghpafdaaGreatPkB48
namespace Go.Proofs.YtffehehghpafdaaGreat
set_option maxRecDepth 100000
open Go.RowKit Go.Maps Go.Sort Go.Shelf
theorem step_callX {P:Program} {ops:Array Oper} {o:Oper} {a:Act} {w:World} {K:Act→World→Prop} {Q:Exit→Act→World→Prop} {E:Prop} {R:Value→World→Prop}
  (f:FuncId) (ts:Array Operand) (ty:Array TypeId) (_:o.op=.call { callee:=.value (.func f),args:=ts,argTypes:=ty }) (hw:Region.wanted o (yielded ops a.tmps)=true) (args:Array Value) (hrun:(execOp a.eval o).run P w=.ok (.enter f args) w) (hc:Calls P f args w fun e w'=>∃ v,e=.returned v∧R v w') (hK:∀ v w',R v w'→K (a.put o.dst v) w') :
  if Region.wanted o (yielded ops a.tmps)=true then Oper.wp P o a w K Q else E:=by
 rw[if_pos hw]
 unfold Oper.wp
 rw[hrun]
 refine hc.mono ?_
 rintro e w'' ⟨v,rfl,hr⟩
 exact hK _ _ hr
def xDm (E:List Ent) (j:Nat):Dr:=if h:j<E.length then (E[j]).L.dr (E[j]).s else ⟨0,0,0,0,0,P0,dnew M0⟩
theorem xDm_get (E:List Ent) (j:Nat) (h:j<E.length):xDm E j=(E[j]).L.dr (E[j]).s:=dif_pos h
def xRm (E:List Ent) (j:Nat):Dr:=if h:j<E.length then (E[j]).L.rr (E[j]).s else ⟨0,0,0,0,0,P0,dnew M0⟩
theorem xRm_get (E:List Ent) (j:Nat) (h:j<E.length):xRm E j=(E[j]).L.rr (E[j]).s:=dif_pos h
def onE (E:List Ent) (z:Int):Bool:=match E.find? (fun e=>decide ((e.L.P.c:Int)=z)) with | some e=>von e.s.v | none=>false
theorem onE_get {E:List Ent} (h:One E) (j:Nat) (hj:j<E.length):onE E ((E[j]).L.P.c:Nat)=von (E[j]).s.v:=by
 unfold onE
 have:E.find? (fun e=>decide ((e.L.P.c:Int)=(((E[j]).L.P.c:Nat):Int)))=some (E[j]):=by
  rw[List.find?_eq_some_iff_getElem]
  refine⟨by simp,j,hj,rfl,fun i hi=>?_⟩
  simp only[Bool.not_eq_true',decide_eq_false_iff_not]
  intro e
  have:=h i j (by omega) hj (by omega)
  omega
 rw[this]
theorem cds_eq (E:List Ent):cdsM (prts E)=cdsC (E.map (·.L.e)).length (cdE E):=by
 unfold cdsM cdsC
 apply List.ext_getElem
 ·simp[prts]
 ·intro i h1 h2
  have hi:i<E.length:=by simpa [prts] using h1
  simp[prts,cdE_get E i hi]
theorem sns_get {w:World} {b lost:Nat} {E:List Ent} {V:List Nat} (h:Mxx w b (prts E) lost V) (j:Nat) (hj:j<E.length):sns (prts E) (E[j]).L.P.c=(E[j]).n:=by
 obtain⟨l,mb,nn,D,h,_⟩:=h
 have hj':j < (prts E).length:=by rw[prts_len];exact hj
 have:=fnd_get h.one j hj'
 unfold sns
 rw[prts_get]at this
 rw[this]
theorem sns_zero {E:List Ent} (h:∀ e,e ∈ E→e.L.P.c≠0):sns (prts E) 0=0:=by
 unfold sns
 cases hf:fnd (prts E) 0 with
 | none=>rfl
 | some p=>
  obtain⟨hm,hc⟩:=fnd_mem hf
  obtain⟨i,hi,rfl⟩:=List.getElem_of_mem hm
  rw[prts_get]at hc
  exact absurd hc (h _ (List.getElem_mem (by simpa [prts] using hi)))
theorem own_nat {w:World} {B:Nat} {e:TypeId} {v:Value} {ns:List Nat} (h:w.ownsRow B e 1 v ns.length (ns.map inV)) {j y:Nat} (hy:ns[j]?=some y):∃ g cap,v=.slice (some ⟨g,0,none⟩) ns.length cap∧w.cell? ⟨g,j,none⟩=some (.int .i64 (y:Nat)):=by
 obtain⟨hj,_⟩:=List.getElem?_eq_some_iff.1 hy
 rcases h.2 with ⟨_,hn⟩ | ⟨g,cap,cur,hv,hB,hg,h1,h2,h3,h4⟩
 ·omega
 ·refine⟨g,cap,hv,(cell_of_row w g j cur _ _ hg).trans ?_⟩
  have e:(cur.toList.take (ns.length*1))[j]?=(ns.map inV)[j]?:=by rw[h4]
  rw[List.getElem?_take_of_lt (by omega),List.getElem?_map,hy]at e
  simpa [inV] using e
set_option maxHeartbeats 16000000 in
theorem showsM (w0 w:World) (x b r:Nat) (E:List Ent) (lost:Nat) (t:Nat→Thing) (h:Wo w0 w x b r E lost t) (hlost:lost<1000000) (hok:∀ e,e ∈ E→e.n<1000000) :
  Calls Tryz.prog 11 #[.pointer (some ⟨x,0,none⟩)] w fun e w'=>e=.returned (.bool true)∧Below w.heap.size w w':=by
 obtain⟨V,em⟩:=h.mx
 obtain⟨v1,v2,er⟩:=h.rm
 obtain⟨va,vm,vr,ew⟩:=h.wd
 have hu:=(h.al.mx em).uniq
 have hle:(prts E).length≤12:=by rw[prts_len];have:=h.le;omega
 have hn8:(E.map (·.L.e)).length<10000:=by have:=h.le;simp;omega
 have hdv:∀ wx,Below w.heap.size w wx→∀ j (hj:j<E.length),∃ U,DV wx (E[j]).L.d (E[j]).L.m (E[j]).L.g (E[j]).L.n (E[j]).L.mx (E[j]).L.P U (E[j]).s:=fun wx hx j hj=>by
  obtain⟨U,e⟩:=h.dv j hj
  exact⟨U,(h.al.below hx).dv e⟩
 have hrw:∀ wx,Below w.heap.size w wx→∀ j (hj:j<E.length),∃ U,RW wx (E[j]).L.e (E[j]).L.r (E[j]).L.q (E[j]).L.n (E[j]).L.mx (E[j]).L.P U (E[j]).s:=fun wx hx j hj=>by
  obtain⟨U,e⟩:=h.rw j hj
  exact⟨U,(h.al.below hx).rw e⟩
 obtain⟨LC,hLC⟩:∃ l,l=riseU (cdsM (prts E)):=⟨_,rfl⟩
 obtain⟨LO,hLO⟩:∃ l,l=riseU ((cdsM (prts E)).filter (onE E)):=⟨_,rfl⟩
 have hlc:LC.length≤100:=by rw[hLC,(riseU_perm _).length_eq];simp[cdsM];omega
 have hlo:LO.length≤100:=by rw[hLO,(riseU_perm _).length_eq];exact Nat.le_trans (List.length_filter_le _ _) (by simp[cdsM];omega)
 have hCod:∀ wx,Below w.heap.size w wx→Calls Tryz.prog 24 #[.pointer (some ⟨b,0,none⟩)] wx fun e w'=>∃ v,e=.returned v∧(Hid (w'.ownsRow wx.heap.size 30 1 v LC.length (LC.map encU)∧Below wx.heap.size wx w')∧Below w.heap.size w w'):=fun wx hx=>
  (mcodes_any b (prts E) lost V wx ((h.al.below hx).mx em) hle).mono fun _ _ ⟨v,ls,e,hh⟩=>by
    obtain⟨hp,hup,ho,_,hb⟩:=hh.out
    have:ls=LC:=by rw[hLC];exact up_one (hp.trans (riseU_perm _).symm) hup (riseU_up _)
    subst this
    exact⟨v,e,⟨ho,hb⟩,hx.trans (hb.mono hx.size)⟩
 have hRCod:∀ wx,Below w.heap.size w wx→Calls Tryz.prog 47 #[.pointer (some ⟨r,0,none⟩)] wx fun e w'=>∃ v,e=.returned v∧(Hid (w'.ownsRow wx.heap.size 30 1 v LC.length (LC.map encU)∧Below wx.heap.size wx w')∧Below w.heap.size w w'):=fun wx hx=>
  (rcodesM_any r v1 v2 _ _ lost (cdE E) wx ((h.al.below hx).get er) ((h.al.below hx).codesR h.rw) hn8).mono fun _ _ ⟨v,e,hh⟩=>by
    rw[← cds_eq,← hLC]at hh
    exact⟨v,e,hh,hx.trans (hh.out.2.mono hx.size)⟩
 have hOn:∀ wx,Below w.heap.size w wx→Calls Tryz.prog 27 #[.pointer (some ⟨b,0,none⟩)] wx fun e w'=>∃ v,e=.returned v∧(Hid (w'.ownsRow wx.heap.size 30 1 v LO.length (LO.map encU)∧Below wx.heap.size wx w')∧Below w.heap.size w w'):=fun wx hx=>
  (mon_any b (prts E) lost V wx ((h.al.below hx).mx em) hle (xDm E) (onE E) (fun j hj=>by
    have hj':j<E.length:=by rw[← prts_len];exact hj
    rw[xDm_get E j hj',prts_get]
    exact⟨hdv wx hx j hj',rfl,onE_get hu j hj'⟩)).mono fun _ _ ⟨v,ls,e,hh⟩=>by
    obtain⟨hp,hup,ho,hb⟩:=hh.out
    have:ls=LO:=by rw[hLO];exact up_one (hp.trans (riseU_perm _).symm) hup (riseU_up _)
    subst this
    exact⟨v,e,⟨ho,hb⟩,hx.trans (hb.mono hx.size)⟩
 have hROn:∀ wx,Below w.heap.size w wx→Calls Tryz.prog 48 #[.pointer (some ⟨r,0,none⟩)] wx fun e w'=>∃ v,e=.returned v∧(Hid (w'.ownsRow wx.heap.size 30 1 v LO.length (LO.map encU)∧Below wx.heap.size wx w')∧Below w.heap.size w w'):=fun wx hx=>
  (ronM_any r v1 v2 _ _ lost (cdE E) (xRm E) (onE E) wx ((h.al.below hx).get er) (fun j hj=>by
    have hj':j<E.length:=by simpa using hj
    rw[xRm_get E j hj',cdE_get E j hj']
    exact⟨hrw wx hx j hj',by simp[Pl.rr],rfl,onE_get hu j hj'⟩) hn8).mono fun _ _ ⟨v,e,hh⟩=>by
    rw[← cds_eq,← hLO]at hh
    exact⟨v,e,hh,hx.trans (hh.out.2.mono hx.size)⟩
 have hEq:∀ wx v1 v2 (l:List Int),Below w.heap.size w wx→l.length≤100→∀ {B1 B2:Nat},wx.ownsRow B1 30 1 v1 l.length (l.map encU)→wx.ownsRow B2 30 1 v2 l.length (l.map encU)→Calls Tryz.prog 29 #[v1,v2] wx fun e w'=>∃ v,e=.returned v∧(v=.bool true∧Below w.heap.size w w'):=fun wx v1 v2 l hx hl B1 B2 h1 h2=>by
  obtain⟨a1,c1,rfl,r1,_⟩:=own_rowU h1
  obtain⟨a2,c2,rfl,r2,_⟩:=own_rowU h2
  exact (equalU a1 a2 c1 c2 l wx r1 r2 (by omega)).mono fun _ _ ⟨e,m,hm⟩=>⟨_,e,rfl,by rw[hm];exact below_drewNB' hx m⟩
 have hLo:∀ wx,Below w.heap.size w wx→Calls Tryz.prog 26 #[.pointer (some ⟨b,0,none⟩)] wx fun e w'=>∃ v,e=.returned v∧(v=.int .i64 (lost:Nat)∧w'=wx):=fun wx hx=>
  (mlost_any b (prts E) lost V wx ((h.al.below hx).mx em) hlost).mono fun _ _ ⟨e,hm⟩=>⟨_,e,rfl,hm⟩
 have hx8:∀ wx,Below w.heap.size w wx→wx.cell? ⟨x,0,none⟩=some (.pointer (some ⟨b,0,none⟩))∧wx.cell? ⟨x,1,none⟩=some (.pointer (some ⟨r,0,none⟩))∧wx.cell? ⟨r,2,none⟩=some (.int .i64 (lost:Nat)):=fun wx hx=>
  ⟨cell_of_row wx x 0 _ _ _ ((h.al.below hx).get ew).blk,cell_of_row wx x 1 _ _ _ ((h.al.below hx).get ew).blk,cell_of_row wx r 2 _ _ _ ((h.al.below hx).get er).blk⟩
 have HH:Hid (_):=And.intro h (And.intro hok (And.intro em (And.intro er (And.intro ew (And.intro hdv hrw)))))
 clear hdv hrw hLC hLO hok er ew em hu hle hn8
 go_enter Tryz.func11,Tryz.ntmps11
 go_wp2_with fail
 go_region_held3 (fun wx=>wx.cell? ⟨x,0,none⟩=some (.pointer (some ⟨b,0,none⟩))∧wx.cell? ⟨x,1,none⟩=some (.pointer (some ⟨r,0,none⟩))∧wx.cell? ⟨r,2,none⟩=some (.int .i64 (lost:Nat))) (first | assumption | exact hx8 _ (by repeat (first | with_reducible assumption | with_reducible refine below_drewNB' ?_ _ | with_reducible refine Below.drew ?_ | with_reducible exact Below.refl _ _))) (first
  | (refine step_callX 24 #[.tmp 7] #[36] rfl (by kernel_rfl) #[.pointer (some ⟨b,0,none⟩)] (by kernel_rfl) (hCod _ (by repeat (first | with_reducible assumption | with_reducible refine below_drewNB' ?_ _ | with_reducible refine Below.drew ?_ | with_reducible exact Below.refl _ _))) ?_;intro v1 w1 h1;obtain⟨H1,hB1⟩:=h1)
  | (refine step_callX 47 #[.tmp 12] #[37] rfl (by kernel_rfl) #[.pointer (some ⟨r,0,none⟩)] (by kernel_rfl) (hRCod _ (by repeat (first | with_reducible assumption | with_reducible refine below_drewNB' ?_ _ | with_reducible refine Below.drew ?_ | with_reducible exact Below.refl _ _))) ?_;intro v2 w2 h2;obtain⟨H2,hB2⟩:=h2;have H1:=hid (own_below H1.out.1 H2.out.2))
  | (refine step_callX 29 #[.tmp 8,.tmp 13] #[22,22] rfl (by kernel_rfl) #[v1,v2] (by kernel_rfl) (hEq _ _ _ _ (by repeat (first | with_reducible assumption | with_reducible refine below_drewNB' ?_ _ | with_reducible refine Below.drew ?_ | with_reducible exact Below.refl _ _)) hlc H1.out H2.out.1) ?_;intro v3 w3 h3;obtain⟨rfl,hB3⟩:=h3;clear H1 H2)
  | (refine step_callX 27 #[.tmp 20] #[36] rfl (by kernel_rfl) #[.pointer (some ⟨b,0,none⟩)] (by kernel_rfl) (hOn _ (by repeat (first | with_reducible assumption | with_reducible refine below_drewNB' ?_ _ | with_reducible refine Below.drew ?_ | with_reducible exact Below.refl _ _))) ?_;intro v4 w4 h4;obtain⟨H4,hB4⟩:=h4)
  | (refine step_callX 48 #[.tmp 25] #[37] rfl (by kernel_rfl) #[.pointer (some ⟨r,0,none⟩)] (by kernel_rfl) (hROn _ (by repeat (first | with_reducible assumption | with_reducible refine below_drewNB' ?_ _ | with_reducible refine Below.drew ?_ | with_reducible exact Below.refl _ _))) ?_;intro v5 w5 h5;obtain⟨H5,hB5⟩:=h5;have H4:=hid (own_below H4.out.1 H5.out.2))
  | (refine step_callX 29 #[.tmp 21,.tmp 26] #[22,22] rfl (by kernel_rfl) #[v4,v5] (by kernel_rfl) (hEq _ _ _ _ (by repeat (first | with_reducible assumption | with_reducible refine below_drewNB' ?_ _ | with_reducible refine Below.drew ?_ | with_reducible exact Below.refl _ _)) hlo H4.out H5.out.1) ?_;intro v6 w6 h6;obtain⟨rfl,hB6⟩:=h6;clear H4 H5)
  | (refine step_callX 26 #[.tmp 34] #[36] rfl (by kernel_rfl) #[.pointer (some ⟨b,0,none⟩)] (by kernel_rfl) (hLo _ (by repeat (first | with_reducible assumption | with_reducible refine below_drewNB' ?_ _ | with_reducible refine Below.drew ?_ | with_reducible exact Below.refl _ _))) ?_;intro v7 w7 h7;obtain⟨rfl,hw7⟩:=h7;have hw7:=hw7.symm;subst hw7))
 have HB:Hid (_):=hB6
 clear hCod hRCod hOn hROn hEq hLo hx8 hB1 hB2 hB3 hB4 hB5 hB6 hlc hlo
 obtain⟨_,hok,em,er,ew,hdv,hrw⟩:=HH.out
 obtain⟨ar,cr0,n,e4⟩:=own_sl (h.al.get ew).rr
 have hn:n=E.length:=by
  rcases (h.al.get ew).rr.2 with ⟨e1,e2⟩ | ⟨g,c,cur,e1,_⟩
  ·rw[e1]at e4;rw[List.length_map]at e2;simp at e4;omega
  ·rw[e1]at e4;simp at e4;omega
 have hx4:∀ wx,Below w.heap.size w wx→wx.cell? ⟨x,4,none⟩=some (.slice ar n cr0)∧wx.cell? ⟨x,0,none⟩=some (.pointer (some ⟨b,0,none⟩)):=fun wx hx=>⟨by rw[← e4];exact cell_of_row wx x 4 _ _ _ ((h.al.below hx).get ew).blk,cell_of_row wx x 0 _ _ _ ((h.al.below hx).get ew).blk⟩
 have HX:Hid (_):=hx4
 have HN:Hid (n=E.length):=hn
 have hn8:n≤8:=by have:=h.le;omega
 have HE4:Hid (_):=e4
 have HW:Hid (_):=h
 clear hok em er ew hdv hrw hx4 hn e4 h
 go_wp2_with fail
 go_loopw [3] (fun c wr=>∃ i:Nat,i≤n∧c=.int .i64 ((i:Nat):Int)∧Hid (Below w.heap.size w wr)) (fun c _=>n-natU c)
 case atStart=>exact⟨0,by omega,rfl,HB⟩
 case round=>
  obtain⟨i,hi,rfl,HR⟩:=hrel
  clear HB
  have hBr:=HR.out
  obtain⟨x4,x0⟩:=HX.out wr hBr
  by_cases hlt:i<n
  ·have hil:i<E.length:=by have:=HN.out;omega
   obtain⟨_,hok,em,er,ew,hdv,hrw⟩:=HH.out
   have h:=HW.out
   have g1:(E.map (·.L.d))[i]?=some (E[i]).L.d:=by simp[hil]
   have g3:(E.map (·.L.e))[i]?=some (E[i]).L.e:=by simp[hil]
   have g5:(E.map (·.n))[i]?=some (E[i]).n:=by simp[hil]
   obtain⟨ga,ca,ea,_⟩:=row_at (h.al.get ew).ra g1
   obtain⟨gr,cr,e5,_⟩:=row_at (h.al.get ew).rr g3
   obtain⟨gs,cz,es,_⟩:=own_nat (h.al.get er).r2 g5
   have lA:(E.map (·.L.d)).length=n:=by have:=HN.out;simp;omega
   have lE:(E.map (·.L.e)).length=n:=by have:=HN.out;simp;omega
   have lN:(E.map (·.n)).length=n:=by have:=HN.out;simp;omega
   have hsn:=sns_get (h.al.mx em) i hil
   have hcl:=(h.pc _ (List.getElem_mem hil)).2.2.2.1
   have hny:=hok _ (List.getElem_mem hil)
   have hSn:∀ wx,Below w.heap.size w wx→Calls Tryz.prog 25 #[.pointer (some ⟨b,0,none⟩),.int .u32 ((E[i]).L.P.c:Nat)] wx fun e w'=>∃ v,e=.returned v∧(v=.int .i64 ((E[i]).n:Nat)∧w'=wx):=fun wx hx=>by
    have q:=mseen_any b (prts E) lost V (E[i]).L.P.c wx ((h.al.below hx).mx em) hcl (by rw[hsn];exact hny)
    rw[hsn]at q
    exact q.mono fun _ _ ⟨e,hm⟩=>⟨_,e,rfl,hm⟩
   have hSe:∀ wx,Below w.heap.size w wx→Calls Tryz.prog 21 #[.pointer (some ⟨(E[i]).L.d,0,none⟩)] wx fun e w'=>∃ v,e=.returned v∧∃ a2 c2,v=.agg #[.int .i64 ((E[i]).s.st:Nat),.int .u32 ((E[i]).s.ss:Nat),.int .u32 ((E[i]).s.nm:Nat),.int .u32 ((E[i]).s.sn:Nat),.int .i64 ((E[i]).s.dc:Nat),.int .i64 (E[i]).s.v.lat,.bool (vreq (E[i]).s.v),.bool (von (E[i]).s.v),.slice a2 (E[i]).L.P.o c2]∧Hid (Row8 w' a2 (E[i]).L.P.o c2 (vout (E[i]).s.v)∧Below wx.heap.size wx w')∧Below w.heap.size w w':=fun wx hx=>by
    obtain⟨U,hd⟩:=hdv wx hx i hil
    refine (seeS_any _ _ _ _ _ _ _ _ wx hd).mono ?_
    rintro e w' ⟨a9,c9,rfl,h9⟩
    exact⟨_,rfl,a9,c9,rfl,⟨h9.out.2.1,h9.out.2.2⟩,hx.trans (h9.out.2.2.mono hx.size)⟩
   have hRe:∀ wx,Below w.heap.size w wx→Calls Tryz.prog 49 #[.pointer (some ⟨(E[i]).L.e,0,none⟩)] wx fun e w'=>∃ v,e=.returned v∧∃ a2 c2,v=.agg #[.int .i64 ((E[i]).s.st:Nat),.int .u32 ((E[i]).s.ss:Nat),.int .u32 ((E[i]).s.nm:Nat),.int .u32 ((E[i]).s.sn:Nat),.int .i64 ((E[i]).s.dc:Nat),.int .i64 (E[i]).s.v.lat,.bool (vreq (E[i]).s.v),.bool (von (E[i]).s.v),.slice a2 (E[i]).L.P.o c2]∧Hid (Row8 w' a2 (E[i]).L.P.o c2 (vout (E[i]).s.v)∧Below wx.heap.size wx w')∧Below w.heap.size w w':=fun wx hx=>by
    obtain⟨U,hd⟩:=hrw wx hx i hil
    refine (rsee_any _ _ _ _ _ _ _ _ wx hd).mono ?_
    rintro e w' ⟨a9,c9,rfl,h9⟩
    exact⟨_,rfl,a9,c9,rfl,⟨h9.out.2.1,h9.out.2.2⟩,hx.trans (h9.out.2.2.mono hx.size)⟩
   have hSm:∀ wx a2 c2 a3 c3,Below w.heap.size w wx→Row8 wx a2 (E[i]).L.P.o c2 (vout (E[i]).s.v)→Row8 wx a3 (E[i]).L.P.o c3 (vout (E[i]).s.v)→Calls Tryz.prog 20 #[.agg #[.int .i64 ((E[i]).s.st:Nat),.int .u32 ((E[i]).s.ss:Nat),.int .u32 ((E[i]).s.nm:Nat),.int .u32 ((E[i]).s.sn:Nat),.int .i64 ((E[i]).s.dc:Nat),.int .i64 (E[i]).s.v.lat,.bool (vreq (E[i]).s.v),.bool (von (E[i]).s.v),.slice a2 (E[i]).L.P.o c2],.agg #[.int .i64 ((E[i]).s.st:Nat),.int .u32 ((E[i]).s.ss:Nat),.int .u32 ((E[i]).s.nm:Nat),.int .u32 ((E[i]).s.sn:Nat),.int .i64 ((E[i]).s.dc:Nat),.int .i64 (E[i]).s.v.lat,.bool (vreq (E[i]).s.v),.bool (von (E[i]).s.v),.slice a3 (E[i]).L.P.o c3]] wx fun e w'=>∃ v,e=.returned v∧(v=.bool true∧Below w.heap.size w w'):=fun wx a2 c2 a3 c3 hx r2 r3=>
    (same13_any _ _ _ _ _ _ _ _ a2 a3 _ _ c2 c3 _ _ wx r2 r3 rfl).mono fun _ _ ⟨e,hb⟩=>⟨_,e,rfl,hx.trans (hb.mono hx.size)⟩
   have hx8:∀ wx,Below w.heap.size w wx→wx.cell? ⟨x,0,none⟩=some (.pointer (some ⟨b,0,none⟩))∧wx.cell? ⟨x,1,none⟩=some (.pointer (some ⟨r,0,none⟩))∧wx.cell? ⟨x,2,none⟩=some (.slice (some ⟨ga,0,none⟩) n ca)∧wx.cell? ⟨x,4,none⟩=some (.slice (some ⟨gr,0,none⟩) n cr)∧wx.cell? ⟨gr,i,none⟩=some (.pointer (some ⟨(E[i]).L.e,0,none⟩))∧wx.cell? ⟨ga,i,none⟩=some (.pointer (some ⟨(E[i]).L.d,0,none⟩))∧wx.cell? ⟨(E[i]).L.e,0,none⟩=some (.int .u32 ((E[i]).L.P.c:Nat))∧wx.cell? ⟨r,1,none⟩=some (.slice (some ⟨gs,0,none⟩) n cz)∧wx.cell? ⟨gs,i,none⟩=some (.int .i64 ((E[i]).n:Nat)):=fun wx hx=>by
    have hw:=(h.al.below hx).get ew
    have hm:=(h.al.below hx).get er
    obtain⟨ga',ca',ea',k1⟩:=row_at hw.ra g1
    obtain⟨gr',cr',e5',k3⟩:=row_at hw.rr g3
    obtain⟨gs',cz',es',k5⟩:=own_nat hm.r2 g5
    rw[lA]at ea ea'
    rw[lE]at e5 e5'
    rw[lN]at es es'
    obtain⟨rfl,rfl⟩:ga=ga'∧ca=ca':=by rw[ea]at ea';simpa using ea'
    obtain⟨rfl,rfl⟩:gr=gr'∧cr=cr':=by rw[e5]at e5';simpa using e5'
    obtain⟨rfl,rfl⟩:gs=gs'∧cz=cz':=by rw[es]at es';simpa using es'
    obtain⟨U,hR⟩:=hrw wx hx i hil
    refine⟨cell_of_row wx x 0 _ _ _ hw.blk,cell_of_row wx x 1 _ _ _ hw.blk,?_,?_,k3,k1,hR.code,?_,k5⟩
    ·rw[← ea];exact cell_of_row wx x 2 _ _ _ hw.blk
    ·rw[← e5];exact cell_of_row wx x 4 _ _ _ hw.blk
    ·rw[← es];exact cell_of_row wx r 1 _ _ _ hm.blk
   have e6:ar=some ⟨gr,0,none⟩:=by have:=HE4.out;rw[e5]at this;simp at this;exact this.1.symm
   subst e6
   have hlt':(i:Int) < (n:Int):=by omega
   clear g1 g3 g5 ea e5 es lA lE lN hsn hcl hny hdv hrw em er ew hok h
   generalize (E[i]).L.d=dd at *
   generalize (E[i]).L.e=de at *
   generalize (E[i]).L.P.c=cc at *
   generalize (E[i]).n=ny at *
   generalize (E[i]).s=s at *
   generalize (E[i]).L.P=P at *
   go_wp2_with fail
   go_region_held3 (fun wx=>wx.cell? ⟨x,0,none⟩=some (.pointer (some ⟨b,0,none⟩))∧wx.cell? ⟨x,1,none⟩=some (.pointer (some ⟨r,0,none⟩))∧wx.cell? ⟨x,2,none⟩=some (.slice (some ⟨ga,0,none⟩) n ca)∧wx.cell? ⟨x,4,none⟩=some (.slice (some ⟨gr,0,none⟩) n cr)∧wx.cell? ⟨gr,i,none⟩=some (.pointer (some ⟨de,0,none⟩))∧wx.cell? ⟨ga,i,none⟩=some (.pointer (some ⟨dd,0,none⟩))∧wx.cell? ⟨de,0,none⟩=some (.int .u32 (cc:Nat))∧wx.cell? ⟨r,1,none⟩=some (.slice (some ⟨gs,0,none⟩) n cz)∧wx.cell? ⟨gs,i,none⟩=some (.int .i64 (ny:Nat))) (first | assumption | exact hx8 _ (by repeat (first | with_reducible assumption | with_reducible refine below_drewNB' ?_ _ | with_reducible refine Below.drew ?_ | with_reducible exact Below.refl _ _))) (first
    | (refine step_callX 25 #[.tmp 57,.tmp 68] #[36,30] rfl (by kernel_rfl) #[.pointer (some ⟨b,0,none⟩),.int .u32 (cc:Nat)] (by kernel_rfl) (hSn _ (by repeat (first | with_reducible assumption | with_reducible refine below_drewNB' ?_ _ | with_reducible refine Below.drew ?_ | with_reducible exact Below.refl _ _))) ?_;intro v1 w1 h1;obtain⟨rfl,hw1⟩:=h1;have hw1:=hw1.symm;subst hw1)
    | (refine step_callX 21 #[.tmp 88] #[43] rfl (by kernel_rfl) #[.pointer (some ⟨dd,0,none⟩)] (by kernel_rfl) (hSe _ (by repeat (first | with_reducible assumption | with_reducible refine below_drewNB' ?_ _ | with_reducible refine Below.drew ?_ | with_reducible exact Below.refl _ _))) ?_;intro v2 w2 h2;obtain⟨a2,c2,rfl,H2,hB2⟩:=h2)
    | (refine step_callX 49 #[.tmp 96] #[45] rfl (by kernel_rfl) #[.pointer (some ⟨de,0,none⟩)] (by kernel_rfl) (hRe _ (by repeat (first | with_reducible assumption | with_reducible refine below_drewNB' ?_ _ | with_reducible refine Below.drew ?_ | with_reducible exact Below.refl _ _))) ?_;intro v3 w3 h3;obtain⟨a3,c3,rfl,H3,hB3⟩:=h3;have H2:=hid (H2.out.1.below H3.out.2))
    | (refine step_callX 20 #[.tmp 89,.tmp 97] #[76,76] rfl (by kernel_rfl) _ (by kernel_rfl) (hSm _ _ _ _ _ (by repeat (first | with_reducible assumption | with_reducible refine below_drewNB' ?_ _ | with_reducible refine Below.drew ?_ | with_reducible exact Below.refl _ _)) H2.out H3.out.1) ?_;intro v4 w4 h4;obtain⟨rfl,hB4⟩:=h4;clear H2 H3))
   have HB5:Hid (_):=hB4
   clear hSn hSe hRe hSm hx8 hB2 hB3 hB4 hBr x4 x0
   go_wp2_with fail
   go_roundw
   case rel=>exact⟨i+1,by omega,by go_num,HB5⟩
   case measure=>simp[natU] <;> omega
  ·obtain rfl:i=n:=by omega
   have hz:=sns_zero (E:=E) (fun e he=>(HW.out.pc e he).2.2.1)
   have q0:=mseen_any b (prts E) lost V 0 wr ((HW.out.al.below hBr).mx HH.out.2.2.1) (by omega) (by rw[hz];omega)
   rw[hz]at q0
   have q1:Calls Tryz.prog 25 #[.pointer (some ⟨b,0,none⟩),.int .u32 0] wr fun e w'=>e=.returned (.int .i64 0)∧w'=wr:=q0
   have hii:¬ (i:Int) < (i:Int):=by omega
   clear q0 hz
   go_wp2_with (go_at_call 25;refine q1.mono ?_;rintro e w' ⟨rfl,hw⟩;have hw:=hw.symm;subst hw)
   go_ret
   exact⟨rfl,HR.out⟩
end Go.Proofs.YtffehehghpafdaaGreat
