/- Part 36: contracts that the proof rests on. -/
import Derived.Test.YtenilkloffnjlaaGreatPkH34
set_option maxHeartbeats 64000000
set_option maxRecDepth 100000
namespace Go.Proofs.YtenilkloffnjlaaGreat
open Tryz
open Go.RowKit Go.Maps
set_option linter.unusedVariables false
theorem zZ (e:Nat→Nat) (w0 w:World) (t:Nat→Thing) (L:Pw) (S:Ws) (k s:Nat) (f:Fm) (a:Option Addr) (cap i:Nat) (h:PWn e w0 (aJ t (2*i+1) (fi a f.1 cap f.2)) L w S) (F:Fre e t i) (hF:S.fs.length≤90000) (hf:f.1≤27) (hB:S.bg.length<4096):Calls prog 81 #[ac L.x 0,.int .i64 (k:Nat),.int .i64 (s:Nat),.slice a f.1 cap] w fun r w'=>r=.returned (.int .i64 (S.putI f))∧Hid (PWn e w0 t L w' (S.put k s f)):=by
 have hi:=F i (Nat.le_refl _)
 obtain⟨t1,L1,h1,hs,hx,he⟩:=id h
 have:=acP e w0 w t1 L1 k s f a cap (2*i+1) h1 (by rw[hs];exact hF) hi.1 ((he _ hi.1).trans (al _ _ _)) hf (by rw[hs];exact hB)
 rw[hx.x,hs]at this
 refine this.mono ?_
 rintro r w' ⟨rfl,H⟩
 exact⟨rfl,(PWn.bind hx he H.out).drop hi.1 hi.2⟩
theorem aca (e:Nat→Nat) (w0 w:World) (t:Nat→Thing) (L:Pw) (k i:Nat) (h:PW e w0 w t L) (F:Fre e t i) (hk:k<L.S.n) (hF:L.S.fs.length≤90000) (hB:L.S.bg.length<4096) (ho:(L.S.hs k).ms<4) (h5:1 ≤ (L.S.hs k).st∧(L.S.hs k).st≤5) (hsn:(L.S.hs k).st=4→(L.S.hs k).sn+1<4294967296) (hL:(L.S.hs k).L.length<700000) (hb:∀ j,j < (aL (L.S.PH k) (L.S.hs k)).1→(aL (L.S.PH k) (L.S.hs k)).2 j<256) (hf:(aL (L.S.PH k) (L.S.hs k)).1≤27):Calls prog 53 #[ac L.x 0,.int .i64 (k:Nat)] w fun r w'=>r=.returned (.tuple #[.int .i64 (L.S.snd k).e,.int .i64 (L.S.snd k).i])∧Hid (PWn e w0 t L w' (L.S.snd k).S):=by
 have hR:Calls prog 80 #[ac (L.hd k) 0] w fun r w'=>∃ a cap,r=.returned (.tuple #[.slice a (aL (L.S.PH k) (L.S.hs k)).1 cap,.int .i64 (L.S.snd k).e])∧Hid (PWn e w0 (aJ t (2*i+1) (fi a (aL (L.S.PH k) (L.S.hs k)).1 cap (aL (L.S.PH k) (L.S.hs k)).2)) L w' (L.S.setH k (aM (L.S.PH k) (L.S.hs k)))):=by
  refine (tN (L.hd k) (L.S.PH k) (L.hU k) (L.S.hs k) w (h.2.hv h.1 hk) ho h5 hsn hL).mono ?_
  rintro r w' ⟨v,rfl,H⟩
  obtain⟨a,cap,rfl,hp⟩:=h.outH hk F hb H.out
  exact⟨a,cap,rfl,hp⟩
 have hN:∀ a cap w1,Hid (PWn e w0 (aJ t (2*i+1) (fi a (aL (L.S.PH k) (L.S.hs k)).1 cap (aL (L.S.PH k) (L.S.hs k)).2)) L w1 (L.S.setH k (aM (L.S.PH k) (L.S.hs k))))→Calls prog 81 #[ac L.x 0,.int .i64 (k:Nat),.int .i64 1,.slice a (aL (L.S.PH k) (L.S.hs k)).1 cap] w1 fun r w'=>r=.returned (.int .i64 (L.S.snd k).i)∧Hid (PWn e w0 t L w' (L.S.snd k).S):=fun a cap w1 q=>zZ e w0 w1 t L _ k 1 (aL (L.S.PH k) (L.S.hs k)) a cap i q.out F hF hf hB
 obtain⟨e1,c0',c1',c2'⟩:=(h.2.wb h.1).conn (k:=k) hk
 have cv:w.cell? ⟨L.x,3,none⟩=some (.slice (af (fd L.vc) 0) L.S.n (ik L.vc)):=(ae w L.x 3 _ _ _ (h.2.wb h.1).blk).trans (congrArg some e1)
 have c0:w.cell? ⟨fd L.vc,k*3,none⟩=some (ac (L.hd k) 0):=c0'
 have c1:w.cell? ⟨fd L.vc,k*3+1,none⟩=some (ac (L.dd k) 0):=c1'
 clear c0' c1' c2' e1
 obtain⟨X,hX⟩:∃ y,L.x=y:=⟨_,rfl⟩
 obtain⟨g,hg⟩:∃ y,fd L.vc=y:=⟨_,rfl⟩
 obtain⟨cc,hcc⟩:∃ y,ik L.vc=y:=⟨_,rfl⟩
 obtain⟨n,hn⟩:∃ y,L.S.n=y:=⟨_,rfl⟩
 have hlt:((k:Nat):Int) < ((n:Nat):Int):=by omega
 rw[hX,hg,hcc,hn]at cv
 rw[hg]at c0 c1
 obtain⟨E,hE⟩:∃ y,(L.S.snd k).e=y:=⟨_,rfl⟩
 obtain⟨I,hI⟩:∃ y,(L.S.snd k).i=y:=⟨_,rfl⟩
 obtain⟨S',hS'⟩:∃ y,(L.S.snd k).S=y:=⟨_,rfl⟩
 obtain⟨S1,hS1⟩:∃ y,L.S.setH k (aM (L.S.PH k) (L.S.hs k))=y:=⟨_,rfl⟩
 obtain⟨f,hf'⟩:∃ y,aL (L.S.PH k) (L.S.hs k)=y:=⟨_,rfl⟩
 rw[hE,hI,hS',hX]
 rw[hE,hf',hS1]at hR
 rw[hX,hI,hS',hf',hS1]at hN
 obtain⟨fl,fb⟩:=f
 have HN:Hid (_):=hN
 clear hN h hF hb hf hf' hS1 hS' F
 go_enter func53,ntmps53
 go_wp2_with fail
 refine hR.mono ?_
 rintro r w1 ⟨a,cap,rfl,H1⟩
 clear hR
 go_wp2_with fail
 refine (HN.out a cap w1 H1).mono ?_
 rintro r w2 ⟨rfl,H2⟩
 go_wp2_with fail
 go_ret2
 exact⟨rfl,H2⟩
theorem PWn.below {e:Nat→Nat} {w0 w:World} {t:Nat→Thing} {L:Pw} {S:Ws} {w':World} (h:PWn e w0 t L w S) (b:Below w.heap.size w w'):PWn e w0 t L w' S:=by
 obtain⟨t1,L1,h1,r⟩:=h
 exact⟨t1,L1,h1.below b,r⟩
theorem PWn.box {e:Nat→Nat} {w0 w:World} {t:Nat→Thing} {L:Pw} {S:Ws} {q:Nat} {l:List (Nat × Obj)} (h:PWn e w0 t L w S) (hq:∀ j,q≠e j) (ht:t q=fC l):∀ p,p ∈ l→w.heap[p.1]?=some p.2:=by
 obtain⟨t1,L1,h1,_,_,he⟩:=h
 exact h1.1.get ((he q hq).trans ht)
theorem PWn.rowq {e:Nat→Nat} {w0 w:World} {t:Nat→Thing} {L:Pw} {S:Ws} {q:Nat} {a:Option Addr} {n c:Nat} {bs:Nat→Nat} (h:PWn e w0 t L w S) (hq:∀ j,q≠e j) (ht:t q=fi a n c bs):Row8 w a n c bs:=by
 obtain⟨t1,L1,h1,_,_,he⟩:=h
 exact h1.row ((he q hq).trans ht)
theorem nO {e:Nat→Nat} {w0 w:World} {t:Nat→Thing} {L:Pw} {S:Ws} (k:Nat) (a b:Sd) (n:Nat) (aa ab:Option Addr) (ca cb i:Nat) (h:PWn e w0 t L w S) (F:Fre e t i) (hF:S.fs.length≤90000):Calls prog 111 #[ac L.x 0,.int .i64 (k:Nat),.agg (bO a.st a.ss a.nm a.sn a.dc a.v.lat (au a.v) (aE a.v) aa n ca),.agg (bO b.st b.ss b.nm b.sn b.dc b.v.lat (au b.v) (aE b.v) ab n cb)] w fun r w'=>r=.returned (.tuple #[])∧Hid (PWn e w0 t L w' (S.note (ee k a b))):=by
 obtain⟨t1,L1,h1,hs,hx,he⟩:=h
 have:=pY e w0 w t1 L1 k a b n aa ab ca cb i h1 (F.els he) (by rw[hs];exact hF)
 rw[hx.x,hs]at this
 refine this.mono ?_
 rintro r w' ⟨rfl,H⟩
 exact⟨rfl,PWn.bind hx he H.out⟩
theorem pZ {e:Nat→Nat} {w0 w:World} {t:Nat→Thing} {L:Pw} {S:Ws} (k s:Nat) (f:Fm) (a:Option Addr) (cap i:Nat) (h:PWn e w0 t L w S) (hF:S.fs.length≤90000) (hi:∀ j,i≠e j) (ht:t i=fi a f.1 cap f.2):Calls prog 109 #[ac L.x 0,.int .i64 (k:Nat),.int .i64 (s:Nat),.slice a f.1 cap] w fun r w'=>r=.returned (.tuple #[])∧Hid (PWn e w0 t L w' (S.note (cO k s f))):=by
 obtain⟨t1,L1,h1,hs,hx,he⟩:=h
 have:=lf e w0 w t1 L1 k s f a cap i h1 (by rw[hs];exact hF) hi ((he i hi).trans ht)
 rw[hx.x,hs]at this
 refine this.mono ?_
 rintro r w' ⟨rfl,H⟩
 exact⟨rfl,PWn.bind hx he H.out⟩
theorem wH {e:Nat→Nat} {w0 w:World} {t:Nat→Thing} {L:Pw} {S:Ws} {k:Nat} (h:PWn e w0 t L w S) (hk:k<S.n):Calls prog 31 #[ac (L.dd k) 0] w fun r w'=>∃ a cap,r=.returned (.agg #[.int .i64 ((S.ds k).st:Nat),.int .u32 ((S.ds k).ss:Nat),.int .u32 ((S.ds k).nm:Nat),.int .u32 ((S.ds k).sn:Nat),.int .i64 ((S.ds k).dc:Nat),.int .i64 (S.ds k).v.lat,.bool (au (S.ds k).v),.bool (aE (S.ds k).v),.slice a (S.PD k).o cap])∧Hid (Below w.heap.size w w'):=by
 obtain⟨t1,L1,h1,hs,hx,he⟩:=h
 subst hs
 have:=i6 _ _ _ _ _ _ _ _ w (h1.2.dv h1.1 hk)
 rw[hx.dd]at this
 refine this.mono ?_
 rintro r w' ⟨a,cap,rfl,H⟩
 exact⟨a,cap,rfl,H.out.2.2⟩
theorem kN (k:Nat) (a b:Sd):(ee k a b).length≤2:=by
 unfold ee
 rw[List.length_append]
 split <;> split <;> simp
theorem fV (k s:Nat) (f:Fm):(cO k s f).length≤2:=by
 unfold cO dW
 split <;> simp
theorem aaz {w:World} {x:Nat} {s:Sd} {o ca:Nat} {aa:Option Addr} (h:w.heap[x]?=some (.cells (bO s.st s.ss s.nm s.sn s.dc s.v.lat (au s.v) (aE s.v) aa o ca) 43 (0,0))):w.cell? ⟨x,0,none⟩=some (.int .i64 (s.st:Nat))∧w.cell? ⟨x,1,none⟩=some (.int .u32 (s.ss:Nat))∧w.cell? ⟨x,2,none⟩=some (.int .u32 (s.nm:Nat))∧w.cell? ⟨x,3,none⟩=some (.int .u32 (s.sn:Nat))∧w.cell? ⟨x,4,none⟩=some (.int .i64 (s.dc:Nat))∧w.cell? ⟨x,5,none⟩=some (.int .i64 s.v.lat)∧w.cell? ⟨x,6,none⟩=some (.bool (au s.v))∧w.cell? ⟨x,7,none⟩=some (.bool (aE s.v))∧w.cell? ⟨x,8,none⟩=some (.slice aa o ca):=
 ⟨ae w x 0 _ _ _ h,ae w x 1 _ _ _ h,ae w x 2 _ _ _ h,ae w x 3 _ _ _ h,ae w x 4 _ _ _ h,ae w x 5 _ _ _ h,ae w x 6 _ _ _ h,ae w x 7 _ _ _ h,ae w x 8 _ _ _ h⟩
theorem abr (X k g cc n dd fl cap:Nat) (a:Option Addr) (s b:Sd) (o m:Nat) (E I:Int) (br:Bool) (w:World) (Q1:Nat→Option Addr→Nat→World→Prop) (Q2 Q3 Q4:Nat→Option Addr→Nat→Option Addr→Nat→World→Prop) (Z:World→Prop)
  (cv:w.cell? ⟨X,3,none⟩=some (.slice (af g 0) n cc)) (c1:w.cell? ⟨g,k*3+1,none⟩=some (ac dd 0)) (hlt:((k:Nat):Int) < ((n:Nat):Int))
  (hA:Calls prog 31 #[ac dd 0] w fun r w'=>∃ aa ca,r=.returned (.agg (bO s.st s.ss s.nm s.sn s.dc s.v.lat (au s.v) (aE s.v) aa o ca))∧Hid (Below w.heap.size w w'))
  (hLay:∀ w1 wa aa ca,Below w.heap.size w w1→wa=w1.alloc (.cells (bO s.st s.ss s.nm s.sn s.dc s.v.lat (au s.v) (aE s.v) aa o ca) 43)→Q1 w1.heap.size aa ca wa)
  (hR:∀ x aa ca wa,Q1 x aa ca wa→Calls prog 110 #[ac dd 0,.slice a fl cap] wa fun r w'=>∃ ab cb,r=.returned (.tuple #[.slice ab m cb,.int .i64 E])∧Hid (Q2 x aa ca ab cb w'))
  (hB2:∀ x aa ca ab cb w2,Hid (Q2 x aa ca ab cb w2)→Calls prog 31 #[ac dd 0] w2.drew fun r w'=>∃ a3 c3,r=.returned (.agg (bO b.st b.ss b.nm b.sn b.dc b.v.lat (au b.v) (aE b.v) a3 o c3))∧Hid (Q2 x aa ca ab cb w'))
  (hC:∀ x aa ca ab cb a3 c3 w3,Hid (Q2 x aa ca ab cb w3)→Calls prog 111 #[ac X 0,.int .i64 (k:Nat),.agg (bO s.st s.ss s.nm s.sn s.dc s.v.lat (au s.v) (aE s.v) aa o ca),.agg (bO b.st b.ss b.nm b.sn b.dc b.v.lat (au b.v) (aE b.v) a3 o c3)] w3 fun r w'=>r=.returned (.tuple #[])∧Hid (Q3 x aa ca ab cb w'))
  (hX2:∀ x aa ca ab cb w2,Hid (Q2 x aa ca ab cb w2)→w2.heap[x]?=some (.cells (bO s.st s.ss s.nm s.sn s.dc s.v.lat (au s.v) (aE s.v) aa o ca) 43 (0,0)))
  (hX3:∀ x aa ca ab cb w2,Hid (Q3 x aa ca ab cb w2)→w2.heap[x]?=some (.cells (bO s.st s.ss s.nm s.sn s.dc s.v.lat (au s.v) (aE s.v) aa o ca) 43 (0,0)))
  (hBr:∀ x aa ca ab cb w4,Hid (Q3 x aa ca ab cb w4)→Calls prog 112 #[.slice a fl cap,.int .i64 (s.st:Nat)] w4 fun r w'=>r=.returned (.bool br)∧Hid (Q3 x aa ca ab cb w'))
  (hFr:∀ x aa ca ab cb w5,Hid (Q3 x aa ca ab cb w5)→Calls prog 109 #[ac X 0,.int .i64 (k:Nat),.int .i64 2,.slice a fl cap] w5 fun r w'=>r=.returned (.tuple #[])∧Hid (Q4 x aa ca ab cb w'))
  (hPu:∀ x aa ca ab cb w6,(if E=0∧br=true then Q4 x aa ca ab cb w6 else Q3 x aa ca ab cb w6)→Calls prog 81 #[ac X 0,.int .i64 (k:Nat),.int .i64 2,.slice ab m cb] w6 fun r w'=>r=.returned (.int .i64 I)∧Hid (Z w')) :
  Calls prog 83 #[ac X 0,.int .i64 (k:Nat),.slice a fl cap] w fun r w'=>r=.returned (.tuple #[.int .i64 E,.int .i64 I])∧Hid (Z w'):=by
 have HLay:Hid (_):=hLay
 have HR:Hid (_):=hR
 have HB2:Hid (_):=hB2
 have HC:Hid (_):=hC
 have HX2:Hid (_):=hX2
 have HX3:Hid (_):=hX3
 have HBr:Hid (_):=hBr
 have HFr:Hid (_):=hFr
 have HPu:Hid (_):=hPu
 clear hLay hR hB2 hC hX2 hX3 hBr hFr hPu
 go_enter func83,ntmps83
 go_wp2_with fail
 refine hA.mono ?_
 rintro r w1 ⟨aa,ca,rfl,H1⟩
 clear hA
 obtain⟨wa,hwa⟩:∃ y,w1.alloc (.cells (bO s.st s.ss s.nm s.sn s.dc s.v.lat (au s.v) (aE s.v) aa o ca) 43)=y:=⟨_,rfl⟩
 obtain⟨x,hx⟩:∃ y,w1.heap.size=y:=⟨_,rfl⟩
 have hq1:=HLay.out w1 wa aa ca H1.out hwa.symm
 rw[hx]at hq1
 have hRc:=HR.out x aa ca wa hq1
 have HE:Hid (_=wa):=hwa
 have HS:Hid (_=x):=hx
 clear hwa hx hq1
 go_upto_region 3 with fail
 rw[HE.out,HS.out]
 go_wp2_with fail
 refine hRc.mono ?_
 rintro r w2 ⟨ab,cb,rfl,H2⟩
 clear hRc
 have HSx:=aaz ((Below.drew (Below.refl w2.heap.size w2)).block x (Array.getElem?_eq_some_iff.1 (HX2.out x aa ca ab cb w2 H2)).1 |>.trans (HX2.out x aa ca ab cb w2 H2))
 go_wp2_with fail
 refine wp_region_held_drew (S:=fun w'=>w'.cell? ⟨x,0,none⟩=some (Value.int .i64 (s.st:Nat))∧w'.cell? ⟨x,1,none⟩=some (Value.int .u32 (s.ss:Nat))∧w'.cell? ⟨x,2,none⟩=some (Value.int .u32 (s.nm:Nat))∧w'.cell? ⟨x,3,none⟩=some (Value.int .u32 (s.sn:Nat))∧w'.cell? ⟨x,4,none⟩=some (Value.int .i64 (s.dc:Nat))∧w'.cell? ⟨x,5,none⟩=some (Value.int .i64 s.v.lat)∧w'.cell? ⟨x,6,none⟩=some (Value.bool (au s.v))∧w'.cell? ⟨x,7,none⟩=some (Value.bool (aE s.v))∧w'.cell? ⟨x,8,none⟩=some (Value.slice aa o ca)) (by kernel_rfl) HSx (fun _=>?_)
 refine aq (i:=0) (v:=ac X 0) ?_
 refine aq (i:=1) (v:=Value.int .i64 (k:Nat)) ?_
 refine aq (i:=2) (v:=Value.agg (bO s.st s.ss s.nm s.sn s.dc s.v.lat (au s.v) (aE s.v) aa o ca)) ?_
 refine aq (i:=3) (v:=ac dd 0) ?_
 refine aI (i:=4) 31 #[ac dd 0] (by kernel_rfl) rfl (by kernel_rfl) (by go_simp) ?_
 refine (HB2.out x aa ca ab cb w2 H2).mono ?_
 rintro r w3 ⟨a3,c3,rfl,H3⟩
 have HSy:=aaz (HX2.out x aa ca ab cb w3 H3)
 refine⟨_,rfl,HSy,?_⟩
 refine aI (i:=5) 111 #[ac X 0,Value.int .i64 (k:Nat),Value.agg (bO s.st s.ss s.nm s.sn s.dc s.v.lat (au s.v) (aE s.v) aa o ca),Value.agg (bO b.st b.ss b.nm b.sn b.dc b.v.lat (au b.v) (aE b.v) a3 o c3)] (by kernel_rfl) rfl (by kernel_rfl) (by go_simp) ?_
 refine (HC.out x aa ca ab cb a3 c3 w3 H3).mono ?_
 rintro r w4 ⟨rfl,H4⟩
 have HSz:=aaz (HX3.out x aa ca ab cb w4 H4)
 refine⟨_,rfl,HSz,?_⟩
 refine wpAnyH_done (by kernel_rfl) ?_ _
 have cst:=HSz.1
 have hBc:=HBr.out x aa ca ab cb w4 H4
 clear HSx HSy HSz H2 H3 HB2 HC HX2 HX3 HR HLay cv c1
 by_cases h0:E=0
 ·subst h0
  cases br
  ·go_wp2_with fail
   refine hBc.mono ?_
   rintro r w5 ⟨rfl,H5⟩
   have hPc:=HPu.out x aa ca ab cb w5 (by rw[if_neg (by simp)];exact H5.out)
   go_wp2_with fail
   refine hPc.mono ?_
   rintro r w6 ⟨rfl,H6⟩
   go_wp2_with fail
   go_ret2
   exact⟨rfl,H6⟩
  ·go_wp2_with fail
   refine hBc.mono ?_
   rintro r w5 ⟨rfl,H5⟩
   have hFc:=HFr.out x aa ca ab cb w5 H5
   go_wp2_with fail
   refine hFc.mono ?_
   rintro r w6 ⟨rfl,H6⟩
   have hPc:=HPu.out x aa ca ab cb w6 (by rw[if_pos (by simp)];exact H6.out)
   go_wp2_with fail
   refine hPc.mono ?_
   rintro r w7 ⟨rfl,H7⟩
   go_wp2_with fail
   go_ret2
   exact⟨rfl,H7⟩
 ·have h0':(E == 0)=false:=by simpa using h0
  have hPc:=HPu.out x aa ca ab cb w4 (by rw[if_neg (fun q=>h0 q.1)];exact H4.out)
  go_wp2_with fail
  refine hPc.mono ?_
  rintro r w6 ⟨rfl,H6⟩
  go_wp2_with fail
  go_ret2
  exact⟨rfl,H6⟩
theorem abb (e:Nat→Nat) (w0 w:World) (t:Nat→Thing) (L:Pw) (k:Nat) (f:Fm) (a:Option Addr) (cap i q:Nat) (h:PW e w0 w t L) (F:Fre e t i) (hk:k<L.S.n) (hF:L.S.fs.length≤80000) (hB:L.S.bg.length<4096) (hq:∀ j,q≠e j) (hqi:q<2*i+1) (ht:t q=fi a f.1 cap f.2) (hsn:(L.S.ds k).st=4→(L.S.ds k).sn+1<4294967296) (ho:(L.S.ds k).od<4) (hL:(L.S.ds k).L.length<800000) (htm:(L.S.ds k).ms.t<9223372036854774000) (hb:∀ j,j < (ay (L.S.PD k) L.S.mx 16 (L.S.ds k) f.1 f.2).f.1→(ay (L.S.PD k) L.S.mx 16 (L.S.ds k) f.1 f.2).f.2 j<256) (hf:(ay (L.S.PD k) L.S.mx 16 (L.S.ds k) f.1 f.2).f.1≤27) :
  Calls prog 83 #[ac L.x 0,.int .i64 (k:Nat),.slice a f.1 cap] w fun r w'=>r=.returned (.tuple #[.int .i64 (L.S.toD k f).e,.int .i64 (L.S.toD k f).i])∧Hid (PWn e w0 t L w' (L.S.toD k f).S):=by
 have hA:=wH (k:=k) h.n hk
 obtain⟨s,hs⟩:∃ y,L.S.ds k=y:=⟨_,rfl⟩
 obtain⟨P,hP⟩:∃ y,L.S.PD k=y:=⟨_,rfl⟩
 obtain⟨tx,htx⟩:∃ y:Nat→Option Addr→Nat→Nat→Thing,y=fun x aa ca=>aJ t (2*i+1) (fC [(x,.cells (bO s.st s.ss s.nm s.sn s.dc s.v.lat (au s.v) (aE s.v) aa P.o ca) 43 (0,0))]):=⟨_,rfl⟩
 obtain⟨ty,hty⟩:∃ y:Nat→Option Addr→Nat→Option Addr→Nat→Nat→Thing,y=fun x aa ca ab cb=>aJ (tx x aa ca) (2 * (i+1)+1) (fi ab (ay (L.S.PD k) L.S.mx 16 (L.S.ds k) f.1 f.2).f.1 cb (ay (L.S.PD k) L.S.mx 16 (L.S.ds k) f.1 f.2).f.2):=⟨_,rfl⟩
 have Fx:∀ x aa ca,Fre e (tx x aa ca) (i+1):=fun x aa ca=>by
  rw[htx]
  exact F.put _
 have Fy:∀ x aa ca ab cb,Fre e (ty x aa ca ab cb) (i+1+1):=fun x aa ca ab cb=>by
  rw[hty]
  exact (Fx x aa ca).put _
 have i1:=(F i (Nat.le_refl _)).1
 have yx:∀ x aa ca ab cb,ty x aa ca ab cb (2*i+1)=fC [(x,.cells (bO s.st s.ss s.nm s.sn s.dc s.v.lat (au s.v) (aE s.v) aa P.o ca) 43 (0,0))]:=fun x aa ca ab cb=>by
  rw[hty,htx]
  dsimp only
  rw[an _ _ (by omega),al]
 have yq:∀ x aa ca ab cb,ty x aa ca ab cb q=fi a f.1 cap f.2:=fun x aa ca ab cb=>by
  rw[hty,htx]
  dsimp only
  rw[an _ _ (by omega),an _ _ (by omega)]
  exact ht
 have xq:∀ x aa ca,tx x aa ca q=fi a f.1 cap f.2:=fun x aa ca=>by
  rw[htx]
  dsimp only
  rw[an _ _ (by omega)]
  exact ht
 have hR:∀ x aa ca wa,PW e w0 wa (tx x aa ca) L→Calls prog 110 #[ac (L.dd k) 0,.slice a f.1 cap] wa fun r w'=>∃ ab cb,r=.returned (.tuple #[.slice ab (ay (L.S.PD k) L.S.mx 16 (L.S.ds k) f.1 f.2).f.1 cb,.int .i64 (ay (L.S.PD k) L.S.mx 16 (L.S.ds k) f.1 f.2).e])∧Hid (PWn e w0 (ty x aa ca ab cb) L w' (L.S.setD k (ay (L.S.PD k) L.S.mx 16 (L.S.ds k) f.1 f.2).s)):=fun x aa ca wa hp=>by
  refine (nQ (L.dd k) (L.dm k) (L.dg k) 16 L.S.mx (L.S.PD k) (L.dU k) (L.S.ds k) a f.1 cap f.2 wa (hp.2.dv hp.1 hk) (hp.row (xq x aa ca)) hsn ho hL htm).mono ?_
  rintro r w' ⟨v,rfl,H⟩
  obtain⟨ab,cb,rfl,h9⟩:=hp.outD hk (Fx x aa ca) hb H.out
  refine⟨ab,cb,rfl,?_⟩
  rw[hty]
  exact h9
 have e0:(L.S.setD k (ay (L.S.PD k) L.S.mx 16 (L.S.ds k) f.1 f.2).s).ds k=(ay (L.S.PD k) L.S.mx 16 (L.S.ds k) f.1 f.2).s:=by
  unfold Ws.setD aG
  exact if_pos rfl
 have hB2:∀ x aa ca ab cb w2,Hid (PWn e w0 (ty x aa ca ab cb) L w2 (L.S.setD k (ay (L.S.PD k) L.S.mx 16 (L.S.ds k) f.1 f.2).s))→Calls prog 31 #[ac (L.dd k) 0] w2.drew fun r w'=>∃ a3 c3,r=.returned (.agg #[.int .i64 ((ay (L.S.PD k) L.S.mx 16 (L.S.ds k) f.1 f.2).s.st:Nat),.int .u32 ((ay (L.S.PD k) L.S.mx 16 (L.S.ds k) f.1 f.2).s.ss:Nat),.int .u32 ((ay (L.S.PD k) L.S.mx 16 (L.S.ds k) f.1 f.2).s.nm:Nat),.int .u32 ((ay (L.S.PD k) L.S.mx 16 (L.S.ds k) f.1 f.2).s.sn:Nat),.int .i64 ((ay (L.S.PD k) L.S.mx 16 (L.S.ds k) f.1 f.2).s.dc:Nat),.int .i64 (ay (L.S.PD k) L.S.mx 16 (L.S.ds k) f.1 f.2).s.v.lat,.bool (au (ay (L.S.PD k) L.S.mx 16 (L.S.ds k) f.1 f.2).s.v),.bool (aE (ay (L.S.PD k) L.S.mx 16 (L.S.ds k) f.1 f.2).s.v),.slice a3 P.o c3])∧Hid (PWn e w0 (ty x aa ca ab cb) L w' (L.S.setD k (ay (L.S.PD k) L.S.mx 16 (L.S.ds k) f.1 f.2).s)):=fun x aa ca ab cb w2 H=>by
  have hd:PWn e w0 (ty x aa ca ab cb) L w2.drew (L.S.setD k (ay (L.S.PD k) L.S.mx 16 (L.S.ds k) f.1 f.2).s):=H.out.below (Below.drew (Below.refl _ _))
  have:=wH (k:=k) hd hk
  rw[e0]at this
  refine this.mono ?_
  rintro r w' ⟨a3,c3,rfl,H3⟩
  refine⟨a3,c3,?_,hd.below H3.out⟩
  rw[← hP]
  rfl
 have hC:∀ x aa ca ab cb a3 c3 w3,Hid (PWn e w0 (ty x aa ca ab cb) L w3 (L.S.setD k (ay (L.S.PD k) L.S.mx 16 (L.S.ds k) f.1 f.2).s))→Calls prog 111 #[ac L.x 0,.int .i64 (k:Nat),.agg (bO s.st s.ss s.nm s.sn s.dc s.v.lat (au s.v) (aE s.v) aa P.o ca),.agg #[.int .i64 ((ay (L.S.PD k) L.S.mx 16 (L.S.ds k) f.1 f.2).s.st:Nat),.int .u32 ((ay (L.S.PD k) L.S.mx 16 (L.S.ds k) f.1 f.2).s.ss:Nat),.int .u32 ((ay (L.S.PD k) L.S.mx 16 (L.S.ds k) f.1 f.2).s.nm:Nat),.int .u32 ((ay (L.S.PD k) L.S.mx 16 (L.S.ds k) f.1 f.2).s.sn:Nat),.int .i64 ((ay (L.S.PD k) L.S.mx 16 (L.S.ds k) f.1 f.2).s.dc:Nat),.int .i64 (ay (L.S.PD k) L.S.mx 16 (L.S.ds k) f.1 f.2).s.v.lat,.bool (au (ay (L.S.PD k) L.S.mx 16 (L.S.ds k) f.1 f.2).s.v),.bool (aE (ay (L.S.PD k) L.S.mx 16 (L.S.ds k) f.1 f.2).s.v),.slice a3 P.o c3]] w3 fun r w'=>r=.returned (.tuple #[])∧Hid (PWn e w0 (ty x aa ca ab cb) L w' (L.S.toD1 k f)):=fun x aa ca ab cb a3 c3 w3 H=>by
  have:=nO k s (ay (L.S.PD k) L.S.mx 16 (L.S.ds k) f.1 f.2).s P.o aa a3 ca c3 _ H.out (Fy x aa ca ab cb) (by show L.S.fs.length≤90000;omega)
  rw[← hs]at this
  rw[← hs]
  exact this
 have hBox:∀ x aa ca ab cb w2 S,Hid (PWn e w0 (ty x aa ca ab cb) L w2 S)→w2.heap[x]?=some (.cells (bO s.st s.ss s.nm s.sn s.dc s.v.lat (au s.v) (aE s.v) aa P.o ca) 43 (0,0)):=fun x aa ca ab cb w2 S H=>H.out.box i1 (yx x aa ca ab cb) (x,_) (by simp)
 have hBr:∀ x aa ca ab cb w4 S,Hid (PWn e w0 (ty x aa ca ab cb) L w4 S)→Calls prog 112 #[.slice a f.1 cap,.int .i64 (s.st:Nat)] w4 fun r w'=>r=.returned (.bool (brF f s.st))∧Hid (PWn e w0 (ty x aa ca ab cb) L w' S):=fun x aa ca ab cb w4 S H=>by
  refine (yP f a cap s.st w4 (H.out.rowq hq (yq x aa ca ab cb))).mono ?_
  rintro r w' ⟨rfl,b⟩
  exact⟨rfl,H.out.below b⟩
 have l1:(L.S.toD1 k f).fs.length≤80002:=by
  show (L.S.fs ++ ee k (L.S.ds k) (ay (L.S.PD k) L.S.mx 16 (L.S.ds k) f.1 f.2).s).length≤_
  have:=kN k (L.S.ds k) (ay (L.S.PD k) L.S.mx 16 (L.S.ds k) f.1 f.2).s
  rw[List.length_append]
  omega
 have hFr:∀ x aa ca ab cb w5,Hid (PWn e w0 (ty x aa ca ab cb) L w5 (L.S.toD1 k f))→Calls prog 109 #[ac L.x 0,.int .i64 (k:Nat),.int .i64 2,.slice a f.1 cap] w5 fun r w'=>r=.returned (.tuple #[])∧Hid (PWn e w0 (ty x aa ca ab cb) L w' ((L.S.toD1 k f).note (cO k 2 f))):=fun x aa ca ab cb w5 H=>pZ k 2 f a cap q H.out (by omega) hq (yq x aa ca ab cb)
 have l2:(L.S.toD2 k f).fs.length≤90000∧(L.S.toD2 k f).bg=L.S.bg:=by
  unfold Ws.toD2
  split
  ·refine⟨?_,rfl⟩
   show ((L.S.toD1 k f).fs ++ cO k 2 f).length≤_
   have:=fV k 2 f
   rw[List.length_append]
   omega
  ·exact⟨by omega,rfl⟩
 have hPu:∀ x aa ca ab cb w6,Hid (PWn e w0 (ty x aa ca ab cb) L w6 (L.S.toD2 k f))→Calls prog 81 #[ac L.x 0,.int .i64 (k:Nat),.int .i64 2,.slice ab (ay (L.S.PD k) L.S.mx 16 (L.S.ds k) f.1 f.2).f.1 cb] w6 fun r w'=>r=.returned (.int .i64 (L.S.toD k f).i)∧Hid (PWn e w0 t L w' (L.S.toD k f).S):=fun x aa ca ab cb w6 H=>by
  have H':=H.out
  rw[hty]at H'
  refine (zZ e w0 w6 (tx x aa ca) L (L.S.toD2 k f) k 2 (ay (L.S.PD k) L.S.mx 16 (L.S.ds k) f.1 f.2).f ab cb (i+1) H' (Fx x aa ca) l2.1 hf (by rw[l2.2];exact hB)).mono ?_
  rintro r w' ⟨rfl,H7⟩
  refine⟨rfl,?_⟩
  have H8:=H7.out
  rw[htx]at H8
  exact PWn.drop H8 i1 (F i (Nat.le_refl _)).2
 have hLay:∀ w1 wa aa ca,Below w.heap.size w w1→wa=w1.alloc (.cells (bO s.st s.ss s.nm s.sn s.dc s.v.lat (au s.v) (aE s.v) aa P.o ca) 43)→PW e w0 wa (tx w1.heap.size aa ca) L:=fun w1 wa aa ca b1 ew=>by
  subst ew
  rw[htx]
  refine (h.below b1).layL (aF (Below.refl _ w1) _) i1 (fun p hp=>?_) (fun p hp=>?_)
  ·simp only[List.mem_cons,List.not_mem_nil,or_false]at hp
   subst hp
   exact aB w1 _
  ·simp only[List.mem_cons,List.not_mem_nil,or_false]at hp
   subst hp
   exact Nat.le_refl _
 rw[hs,hP]at hA
 obtain⟨e1,c0',c1',c2'⟩:=(h.2.wb h.1).conn (k:=k) hk
 have cv:w.cell? ⟨L.x,3,none⟩=some (.slice (af (fd L.vc) 0) L.S.n (ik L.vc)):=(ae w L.x 3 _ _ _ (h.2.wb h.1).blk).trans (congrArg some e1)
 have c0:w.cell? ⟨fd L.vc,k*3,none⟩=some (ac (L.hd k) 0):=c0'
 have c1:w.cell? ⟨fd L.vc,k*3+1,none⟩=some (ac (L.dd k) 0):=c1'
 clear c0' c1' c2' e1
 obtain⟨X,hX⟩:∃ y,L.x=y:=⟨_,rfl⟩
 obtain⟨g,hg⟩:∃ y,fd L.vc=y:=⟨_,rfl⟩
 obtain⟨cc,hcc⟩:∃ y,ik L.vc=y:=⟨_,rfl⟩
 obtain⟨n,hn⟩:∃ y,L.S.n=y:=⟨_,rfl⟩
 have hlt:((k:Nat):Int) < ((n:Nat):Int):=by omega
 rw[hX,hg,hcc,hn]at cv
 rw[hg]at c0 c1
 have e2:L.S.toD2 k f=if (ay (L.S.PD k) L.S.mx 16 (L.S.ds k) f.1 f.2).e=0∧brF f s.st=true then (L.S.toD1 k f).note (cO k 2 f) else L.S.toD1 k f:=by
  rw[← hs]
  rfl
 rw[hX]at hC hFr hPu ⊢
 exact abr X k g cc n (L.dd k) f.1 cap a s (ay (L.S.PD k) L.S.mx 16 (L.S.ds k) f.1 f.2).s P.o (ay (L.S.PD k) L.S.mx 16 (L.S.ds k) f.1 f.2).f.1 (ay (L.S.PD k) L.S.mx 16 (L.S.ds k) f.1 f.2).e (L.S.toD k f).i (brF f s.st) w (fun x aa ca wa=>PW e w0 wa (tx x aa ca) L) (fun x aa ca ab cb w2=>PWn e w0 (ty x aa ca ab cb) L w2 (L.S.setD k (ay (L.S.PD k) L.S.mx 16 (L.S.ds k) f.1 f.2).s)) (fun x aa ca ab cb w2=>PWn e w0 (ty x aa ca ab cb) L w2 (L.S.toD1 k f)) (fun x aa ca ab cb w2=>PWn e w0 (ty x aa ca ab cb) L w2 ((L.S.toD1 k f).note (cO k 2 f))) (fun w'=>PWn e w0 t L w' (L.S.toD k f).S) cv c1 hlt hA hLay hR (fun x aa ca ab cb w2 q=>hB2 x aa ca ab cb w2 q) (fun x aa ca ab cb a3 c3 w3 q=>hC x aa ca ab cb a3 c3 w3 q) (fun x aa ca ab cb w2 q=>hBox x aa ca ab cb w2 _ q) (fun x aa ca ab cb w2 q=>hBox x aa ca ab cb w2 _ q) (fun x aa ca ab cb w2 q=>hBr x aa ca ab cb w2 _ q) (fun x aa ca ab cb w2 q=>hFr x aa ca ab cb w2 q) (fun x aa ca ab cb w6 q=>hPu x aa ca ab cb w6 (by
  rw[e2]
  split at q
  ·next h9=>
   rw[if_pos h9]
   exact q
  ·next h9=>
   rw[if_neg h9]
   exact q))
theorem uK:∀ b0 b1 b2 b3 b4 b5 b6 b7:Bool,(2 * (2 * (2 * (2 * (2 * (2 * (2 * (2*0+b0.toNat)+b1.toNat)+b2.toNat)+b3.toNat)+b4.toNat)+b5.toNat)+b6.toNat)+b7.toNat)<256∧∀ j:Fin 8,(2 * (2 * (2 * (2 * (2 * (2 * (2 * (2*0+b0.toNat)+b1.toNat)+b2.toNat)+b3.toNat)+b4.toNat)+b5.toNat)+b6.toNat)+b7.toNat).testBit (7-j.val)=[b0,b1,b2,b3,b4,b5,b6,b7].getD j.val false:=by decide
theorem re (at_ x i:Nat):gby at_ x i<256:=(uK _ _ _ _ _ _ _ _).1
theorem yu (at_ x i j:Nat) (hj:j<8):(gby at_ x i).testBit (7-j)=PM.ly at_ (PM.bl x) x (PM.bl x) (8*i+j):=by
 refine ((uK _ _ _ _ _ _ _ _).2 ⟨j,hj⟩).trans ?_
 rcases j with _ | _ | _ | _ | _ | _ | _ | _ | j
 all_goals first | rfl | omega
theorem vn (at_ x k:Nat):PM.fb (gby at_ x) k=PM.ly at_ (PM.bl x) x (PM.bl x) k:=by
 have h:=PM.fb_at (gby at_ x) (k / 8) (k % 8) (by omega)
 rw[show 8 * (k / 8)+k % 8=k by omega]at h
 rw[h,yu _ _ _ _ (by omega),show 8 * (k / 8)+k % 8=k by omega]
theorem Grb.fr {B:Nat} {w:World} {f:Fm} {at_ x:Nat} {v:Value} (h:Grb B w f.1 at_ x f.2 v):Fr w B v (qZ f at_ x):=by
 obtain⟨g,ho,hb,hf⟩:=h
 have e:∀ i,i<f.1→g i=gby at_ x i:=PM.byte_ext hb (fun i _=>re at_ x i) (fun k hk=>(hf k hk).trans (vn at_ x k).symm)
 have e2:CB (xr f.2 g) f.1=CB (xr f.2 (gby at_ x)) f.1:=dM _ _ _ (fun i hi=>by unfold xr;rw[e i hi])
 rw[e2]at ho
 exact ho
theorem qC (X b:Nat) (m:Mv) (d:Option Addr) (c:Nat) (f:Fm) (w:World) (Z:Option Addr→Nat→World→Prop)
  (cb:w.cell? ⟨X,4,none⟩=some (ac b 0))
  (hG:∀ wx,m.k=4→Below w.heap.size w wx→Calls prog 102 #[ac b 0,.int .i64 m.f,.int .i64 m.a,.int .u32 (m.w:Nat)] wx fun r w'=>∃ a cap,r=.returned (.tuple #[.slice a f.1 cap,.int .i64 0])∧Z a cap w'∧Below wx.heap.size wx w')
  (hT:∀ wx,m.k≠4→Below w.heap.size w wx→Calls prog 64 #[ac b 0,.int .i64 m.f] wx fun r w'=>∃ a cap,r=.returned (.tuple #[.slice a f.1 cap,.int .i64 0])∧Z a cap w'∧Below wx.heap.size wx w') :
  Calls prog 78 #[ac X 0,.agg (aj m m.c d c)] w fun r w'=>∃ a cap,r=.returned (.tuple #[.slice a f.1 cap,.int .i64 0])∧Hid (Z a cap w'):=by
 have kA:=aB w (.cells (aj m m.c d c) 39)
 have bA:=aF (Below.refl _ w) (.cells (aj m m.c d c) 39)
 obtain⟨wa,hwa⟩:∃ y,w.alloc (.cells (aj m m.c d c) 39)=y:=⟨_,rfl⟩
 rw[hwa]at kA bA
 obtain⟨x,hx⟩:∃ y,w.heap.size=y:=⟨_,rfl⟩
 have kB:wa.heap[x]?=some (.cells (aj m m.c d c) 39 (0,0)):=by
  rw[← hx]
  exact kA
 have bd:Below wa.heap.size wa wa.drew:=Below.drew (Below.refl _ _)
 have q0:wa.cell? ⟨x,0,none⟩=some (.int .i64 m.k):=ae wa x 0 _ _ _ kB
 have hs:∀ wx,Below wa.heap.size wa wx→wx.cell? ⟨X,4,none⟩=some (ac b 0)∧wx.cell? ⟨x,3,none⟩=some (Value.int .i64 m.f)∧wx.cell? ⟨x,4,none⟩=some (Value.int .i64 m.a)∧wx.cell? ⟨x,5,none⟩=some (Value.int .u32 (m.w:Nat)):=fun wx bx=>⟨ag (ag cb bA) bx,ag (ae wa x 3 _ _ _ kB) bx,ag (ae wa x 4 _ _ _ kB) bx,ag (ae wa x 5 _ _ _ kB) bx⟩
 have HSx:=hs wa.drew bd
 have hG:m.k=4→Calls prog 102 #[ac b 0,.int .i64 m.f,.int .i64 m.a,.int .u32 (m.w:Nat)] wa.drew fun r w'=>∃ a cap,r=.returned (.tuple #[.slice a f.1 cap,.int .i64 0])∧Hid (Hid (Z a cap w')∧w'.cell? ⟨X,4,none⟩=some (ac b 0)∧w'.cell? ⟨x,3,none⟩=some (Value.int .i64 m.f)∧w'.cell? ⟨x,4,none⟩=some (Value.int .i64 m.a)∧w'.cell? ⟨x,5,none⟩=some (Value.int .u32 (m.w:Nat))):=fun hk=>by
  refine (hG wa.drew hk (bA.trans (bd.mono bA.size))).mono ?_
  rintro r w' ⟨a,cap,rfl,hz,b2⟩
  exact⟨a,cap,rfl,hz,hs w' (bd.trans (b2.mono bd.size))⟩
 have hT:m.k≠4→Calls prog 64 #[ac b 0,.int .i64 m.f] wa.drew fun r w'=>∃ a cap,r=.returned (.tuple #[.slice a f.1 cap,.int .i64 0])∧Hid (Hid (Z a cap w')∧w'.cell? ⟨X,4,none⟩=some (ac b 0)∧w'.cell? ⟨x,3,none⟩=some (Value.int .i64 m.f)∧w'.cell? ⟨x,4,none⟩=some (Value.int .i64 m.a)∧w'.cell? ⟨x,5,none⟩=some (Value.int .u32 (m.w:Nat))):=fun hk=>by
  refine (hT wa.drew hk (bA.trans (bd.mono bA.size))).mono ?_
  rintro r w' ⟨a,cap,rfl,hz,b2⟩
  exact⟨a,cap,rfl,hz,hs w' (bd.trans (b2.mono bd.size))⟩
 have HE:Hid (_=wa):=hwa
 have HS:Hid (_=x):=hx
 clear kA kB bA bd hs hwa hx cb
 obtain⟨fl,fb⟩:=f
 by_cases hk:m.k=4
 ·have hG:=hG hk
  have q:(m.k == 4)=true:=by simpa using hk
  clear hT hk
  go_enter func78,ntmps78
  go_upto_region 1 with fail
  rw[HE.out,HS.out]
  go_wp2_with fail
  refine wp_region_held_drew (S:=fun w'=>w'.cell? ⟨X,4,none⟩=some (ac b 0)∧w'.cell? ⟨x,3,none⟩=some (Value.int .i64 m.f)∧w'.cell? ⟨x,4,none⟩=some (Value.int .i64 m.a)∧w'.cell? ⟨x,5,none⟩=some (Value.int .u32 (m.w:Nat))) (by kernel_rfl) HSx (fun _=>?_)
  refine aq (i:=0) (v:=ac X 0) ?_
  refine aq (i:=1) (v:=ac X 0) ?_
  refine aq (i:=2) (v:=ac X 4) ?_
  refine aq (i:=3) (v:=ac b 0) ?_
  refine aq (i:=4) (v:=ac x 3) ?_
  refine aq (i:=5) (v:=Value.int .i64 m.f) ?_
  refine aq (i:=6) (v:=ac x 4) ?_
  refine aq (i:=7) (v:=Value.int .i64 m.a) ?_
  refine aq (i:=8) (v:=ac x 5) ?_
  refine aq (i:=9) (v:=Value.int .u32 (m.w:Nat)) ?_
  refine aI (i:=10) 102 #[ac b 0,Value.int .i64 m.f,Value.int .i64 m.a,Value.int .u32 (m.w:Nat)] (by kernel_rfl) rfl (by kernel_rfl) (by go_simp) ?_
  refine hG.mono ?_
  rintro r w3 ⟨a,cap,rfl,H3⟩
  have HSy:w3.cell? ⟨X,4,none⟩=some (ac b 0)∧w3.cell? ⟨x,3,none⟩=some (Value.int .i64 m.f)∧w3.cell? ⟨x,4,none⟩=some (Value.int .i64 m.a)∧w3.cell? ⟨x,5,none⟩=some (Value.int .u32 (m.w:Nat)):=H3.out.2
  refine⟨_,rfl,HSy,?_⟩
  refine aq (i:=11) (v:=Value.slice a fl cap) ?_
  refine aq (i:=12) (v:=Value.int .i64 0) ?_
  refine aq (i:=13) (v:=Value.slice a fl cap) ?_
  refine aq (i:=14) (v:=Value.int .i64 0) ?_
  refine wpAnyH_done (by kernel_rfl) ?_ _
  clear HSx HSy
  go_wp2_with fail
  go_ret2
  exact⟨a,cap,by kernel_rfl,H3.out.1⟩
 ·have hT:=hT hk
  have q:(m.k == 4)=false:=by simpa using hk
  clear hG hk
  go_enter func78,ntmps78
  go_upto_region 1 with fail
  rw[HE.out,HS.out]
  go_wp2_with fail
  refine wp_region_held_drew (S:=fun w'=>w'.cell? ⟨X,4,none⟩=some (ac b 0)∧w'.cell? ⟨x,3,none⟩=some (Value.int .i64 m.f)∧w'.cell? ⟨x,4,none⟩=some (Value.int .i64 m.a)∧w'.cell? ⟨x,5,none⟩=some (Value.int .u32 (m.w:Nat))) (by kernel_rfl) HSx (fun _=>?_)
  refine aq (i:=0) (v:=ac X 0) ?_
  refine aq (i:=1) (v:=ac X 0) ?_
  refine aq (i:=2) (v:=ac X 4) ?_
  refine aq (i:=3) (v:=ac b 0) ?_
  refine aq (i:=4) (v:=ac x 3) ?_
  refine aq (i:=5) (v:=Value.int .i64 m.f) ?_
  refine aI (i:=6) 64 #[ac b 0,Value.int .i64 m.f] (by kernel_rfl) rfl (by kernel_rfl) (by go_simp) ?_
  refine hT.mono ?_
  rintro r w3 ⟨a,cap,rfl,H3⟩
  have HSy:w3.cell? ⟨X,4,none⟩=some (ac b 0)∧w3.cell? ⟨x,3,none⟩=some (Value.int .i64 m.f)∧w3.cell? ⟨x,4,none⟩=some (Value.int .i64 m.a)∧w3.cell? ⟨x,5,none⟩=some (Value.int .u32 (m.w:Nat)):=H3.out.2
  refine⟨_,rfl,HSy,?_⟩
  refine aq (i:=7) (v:=Value.slice a fl cap) ?_
  refine aq (i:=8) (v:=Value.int .i64 0) ?_
  refine aq (i:=9) (v:=Value.slice a fl cap) ?_
  refine aq (i:=10) (v:=Value.int .i64 0) ?_
  refine wpAnyH_done (by kernel_rfl) ?_ _
  clear HSx HSy
  go_wp2_with fail
  go_ret2
  exact⟨a,cap,by kernel_rfl,H3.out.1⟩
theorem PW.layF {e:Nat→Nat} {w0 w w':World} {t:Nat→Thing} {L:Pw} (h:PW e w0 w t L) {i:Nat} (F:Fre e t i) (b:Below w.heap.size w w') {f:Fm} {a:Option Addr} {cap:Nat} (fr:Fr w' w.heap.size (.slice a f.1 cap) f) (hb:∀ j,j<f.1→f.2 j<256):PW e w0 w' (aJ t (2*i+1) (fi a f.1 cap f.2)) L:=by
 obtain⟨a',cap',e1,R⟩:=fr.row hb
 injection e1 with e1 _ e2
 subst e1 e2
 exact h.lay b (F i (Nat.le_refl _)).1 R (fun y hy hl=>fr.newY y hy hl)
theorem wv (e:Nat→Nat) (w0 w:World) (t:Nat→Thing) (L:Pw) (i:Nat) (m:Mv) (d:Option Addr) (c:Nat) (h:PW e w0 w t L) (F:Fre e t i) (h0:0≤m.f) (h1:m.f < ((L.S.bg.length:Nat):Int)) (hw:m.w<4294967296) (h4:m.k=4→cF (((L.S.bg.getD m.f.toNat cZ).1:Nat):Int) m.a m.w=0) :
  Calls prog 78 #[ac L.x 0,.agg (aj m m.c d c)] w fun r w'=>∃ a cap,r=.returned (.tuple #[.slice a (L.S.fr m).1 cap,.int .i64 0])∧Hid (PW e w0 w' (aJ t (2*i+1) (fi a (L.S.fr m).1 cap (L.S.fr m).2)) L):=by
 have hlt:m.f.toNat<L.S.bg.length:=by omega
 have hI:((m.f.toNat:Nat):Int)=m.f:=by omega
 obtain⟨f,hf⟩:∃ y,L.S.bg.getD m.f.toNat cZ=y:=⟨_,rfl⟩
 have hg:L.S.bg[m.f.toNat]?=some f:=by
  rw[← hf,List.getD_eq_getElem?_getD,List.getElem?_eq_getElem hlt]
  rfl
 rw[hf]at h4
 have hby:f.1≤27∧∀ j,j<f.1→f.2 j<256:=(h.2.bg h.1).1.fl.small f (List.mem_of_getElem? hg)
 refine qC L.x L.b m d c (L.S.fr m) w (fun a cap w'=>PW e w0 w' (aJ t (2*i+1) (fi a (L.S.fr m).1 cap (L.S.fr m).2)) L) (ae w L.x 4 _ _ _ (h.2.wb h.1).blk) (fun wx hk bx=>?_) (fun wx hk bx=>?_)
 ·have hp:=h.below bx
  have e1:L.S.fr m=qZ f m.a.toNat m.w:=by
   unfold Ws.fr
   rw[if_pos hk,hf]
  have hm:=h4 hk
  have hm2:¬ (m.w=0∨m.a<0∨8 * ((f.1:Nat):Int)<m.a + ((PM.bl m.w:Nat):Int)):=fun q=>by
   unfold cF at hm
   rw[if_neg (by omega),if_pos q]at hm
   omega
  have hA:((m.a.toNat:Nat):Int)=m.a:=by omega
  have:=kj 0 L.b L.m L.bv L.bs L.bp L.S.bg m.f.toNat f m.a.toNat m.w wx (hp.2.bg hp.1).1 hg hw (fun q=>hm2 (.inl q)) (by omega)
  rw[hI,hA]at this
  refine this.mono ?_
  rintro r w' ⟨g,cap,rfl,H⟩
  rw[e1]
  refine⟨af g 0,cap,rfl,hp.layF F H.out.1 (Grb.fr H.out.2.1) (fun j hj=>?_),H.out.1⟩
  exact aaj (n:=f.1) hby.2 (fun i _=>re _ _ i) j hj
 ·have hp:=h.below bx
  have e1:L.S.fr m=f:=by
   unfold Ws.fr
   rw[if_neg hk,hf]
  have:=gp 0 L.b L.m L.bv L.bs L.bp L.S.bg m.f.toNat f wx (hp.2.bg hp.1).1 hg
  rw[hI]at this
  refine this.mono ?_
  rintro r w' ⟨a,cap,rfl,H⟩
  rw[e1]
  exact⟨a,cap,rfl,hp.layF F H.out.1 H.out.2 hby.2,H.out.1⟩
theorem xy (X:Nat) (m:Mv) (d:Option Addr) (c fl:Nat) (E I:Int) (w:World) (Q1:Nat→World→Prop) (Q2:Nat→Option Addr→Nat→World→Prop) (Z:World→Prop)
  (hLay:∀ wa,wa=w.alloc (.cells (aj m m.c d c) 39)→Q1 w.heap.size wa)
  (hC:∀ x wa,Q1 x wa→Calls prog 78 #[ac X 0,.agg (aj m m.c d c)] wa fun r w'=>∃ a cap,r=.returned (.tuple #[.slice a fl cap,.int .i64 0])∧Hid (Q2 x a cap w'))
  (hX:∀ x a cap w2,Hid (Q2 x a cap w2)→w2.heap[x]?=some (.cells (aj m m.c d c) 39 (0,0)))
  (hI:m.s=1→I = -1)
  (hH:m.s=1→∀ x a cap w2,Hid (Q2 x a cap w2)→Calls prog 82 #[ac X 0,.int .i64 m.c,.slice a fl cap] w2 fun r w'=>r=.returned (.int .i64 E)∧Hid (Z w'))
  (hD:m.s≠1→∀ x a cap w2,Hid (Q2 x a cap w2)→Calls prog 83 #[ac X 0,.int .i64 m.c,.slice a fl cap] w2 fun r w'=>r=.returned (.tuple #[.int .i64 E,.int .i64 I])∧Hid (Z w')) :
  Calls prog 54 #[ac X 0,.agg (aj m m.c d c)] w fun r w'=>r=.returned (.tuple #[.int .i64 E,.int .i64 I])∧Hid (Z w'):=by
 have kA:=aB w (.cells (aj m m.c d c) 39)
 have hq:=hLay _ rfl
 obtain⟨wa,hwa⟩:∃ y,w.alloc (.cells (aj m m.c d c) 39)=y:=⟨_,rfl⟩
 rw[hwa]at kA hq
 obtain⟨x,hx⟩:∃ y,w.heap.size=y:=⟨_,rfl⟩
 rw[hx]at hq
 have kB:wa.heap[x]?=some (.cells (aj m m.c d c) 39 (0,0)):=by
  rw[← hx]
  exact kA
 have hCc:=hC x wa hq
 have q0:wa.cell? ⟨x,0,none⟩=some (.int .i64 m.k):=ae wa x 0 _ _ _ kB
 have q1:wa.cell? ⟨x,1,none⟩=some (.int .i64 m.c):=ae wa x 1 _ _ _ kB
 have q2:wa.cell? ⟨x,2,none⟩=some (.int .i64 m.s):=ae wa x 2 _ _ _ kB
 have q3:wa.cell? ⟨x,3,none⟩=some (.int .i64 m.f):=ae wa x 3 _ _ _ kB
 have q4:wa.cell? ⟨x,4,none⟩=some (.int .i64 m.a):=ae wa x 4 _ _ _ kB
 have q5:wa.cell? ⟨x,5,none⟩=some (.int .u32 (m.w:Nat)):=ae wa x 5 _ _ _ kB
 have q6:wa.cell? ⟨x,6,none⟩=some (.int .i64 m.n):=ae wa x 6 _ _ _ kB
 have q7:wa.cell? ⟨x,7,none⟩=some (.bool m.h):=ae wa x 7 _ _ _ kB
 have q8:wa.cell? ⟨x,8,none⟩=some (.slice d m.l c):=ae wa x 8 _ _ _ kB
 have HX:Hid (_):=hX
 have HE:Hid (_=wa):=hwa
 have HS:Hid (_=x):=hx
 clear kA kB hwa hx hX hC hLay hq
 by_cases hs:m.s=1
 ·have hI:=hI hs
  subst hI
  have hH:=hH hs
  have HH:Hid (_):=hH
  have q:(m.s == 1)=true:=by simpa using hs
  clear hD hs hH
  go_enter func54,ntmps54
  go_upto_region 1 with fail
  rw[HE.out,HS.out]
  go_wp2_with fail
  refine hCc.mono ?_
  rintro r w2 ⟨a,cap,rfl,H2⟩
  have kC:=HX.out x a cap w2 H2
  have d1:w2.cell? ⟨x,1,none⟩=some (.int .i64 m.c):=ae w2 x 1 _ _ _ kC
  have d2:w2.cell? ⟨x,2,none⟩=some (.int .i64 m.s):=ae w2 x 2 _ _ _ kC
  have hZ:=HH.out x a cap w2 H2
  clear kC hCc
  go_wp2_with fail
  refine hZ.mono ?_
  rintro r w3 ⟨rfl,H3⟩
  go_wp2_with fail
  go_ret2
  exact⟨rfl,H3⟩
 ·have hD:=hD hs
  have HD:Hid (_):=hD
  have q:(m.s == 1)=false:=by simpa using hs
  clear hH hs hD hI
  go_enter func54,ntmps54
  go_upto_region 1 with fail
  rw[HE.out,HS.out]
  go_wp2_with fail
  refine hCc.mono ?_
  rintro r w2 ⟨a,cap,rfl,H2⟩
  have kC:=HX.out x a cap w2 H2
  have d1:w2.cell? ⟨x,1,none⟩=some (.int .i64 m.c):=ae w2 x 1 _ _ _ kC
  have d2:w2.cell? ⟨x,2,none⟩=some (.int .i64 m.s):=ae w2 x 2 _ _ _ kC
  have hZ:=HD.out x a cap w2 H2
  clear kC hCc
  go_wp2_with fail
  refine hZ.mono ?_
  rintro r w3 ⟨rfl,H3⟩
  go_wp2_with fail
  go_ret2
  exact⟨rfl,H3⟩
def Ws.dlv (S:Ws) (m:Mv) (k:Nat):Wr:=if m.s=1 then S.toH k (S.fr m) else S.toD k (S.fr m)
theorem wB (e:Nat→Nat) (w0 w:World) (t:Nat→Thing) (L:Pw) (i k:Nat) (m:Mv) (d:Option Addr) (c:Nat) (h:PW e w0 w t L) (F:Fre e t i) (hc:m.c=((k:Nat):Int)) (hk:k<L.S.n) (hF:L.S.fs.length≤80000) (hB:L.S.bg.length<4096) (h0:0≤m.f) (h1:m.f < ((L.S.bg.length:Nat):Int)) (hw:m.w<4294967296) (h4:m.k=4→cF (((L.S.bg.getD m.f.toNat cZ).1:Nat):Int) m.a m.w=0)
  (hHL:(L.S.hs k).L.length<800000) (hsn:(L.S.ds k).st=4→(L.S.ds k).sn+1<4294967296) (ho:(L.S.ds k).od<4) (hL:(L.S.ds k).L.length<800000) (htm:(L.S.ds k).ms.t<9223372036854774000) (hb:∀ j,j < (ay (L.S.PD k) L.S.mx 16 (L.S.ds k) (L.S.fr m).1 (L.S.fr m).2).f.1→(ay (L.S.PD k) L.S.mx 16 (L.S.ds k) (L.S.fr m).1 (L.S.fr m).2).f.2 j<256) (hf:(ay (L.S.PD k) L.S.mx 16 (L.S.ds k) (L.S.fr m).1 (L.S.fr m).2).f.1≤27) :
  Calls prog 54 #[ac L.x 0,.agg (aj m m.c d c)] w fun r w'=>r=.returned (.tuple #[.int .i64 (L.S.dlv m k).e,.int .i64 (L.S.dlv m k).i])∧Hid (PWn e w0 t L w' (L.S.dlv m k).S):=by
 have f0:=F i (Nat.le_refl _)
 have Fa:∀ x,Fre e (aJ t (2*i+1) (fC [(x,.cells (aj m m.c d c) 39 (0,0))])) (i+1):=fun x=>F.put _
 have Fb:∀ x a cap,Fre e (aJ (aJ t (2*i+1) (fC [(x,.cells (aj m m.c d c) 39 (0,0))])) (2 * (i+1)+1) (fi a (L.S.fr m).1 cap (L.S.fr m).2)) (i+1+1):=fun x a cap=>(Fa x).put _
 have hdrop:∀ x a cap w' S,PWn e w0 (aJ (aJ t (2*i+1) (fC [(x,.cells (aj m m.c d c) 39 (0,0))])) (2 * (i+1)+1) (fi a (L.S.fr m).1 cap (L.S.fr m).2)) L w' S→PWn e w0 t L w' S:=fun x a cap w' S q=>(q.drop (Fa x (i+1) (Nat.le_refl _)).1 (Fa x (i+1) (Nat.le_refl _)).2).drop f0.1 f0.2
 refine xy L.x m d c (L.S.fr m).1 (L.S.dlv m k).e (L.S.dlv m k).i w (fun x wa=>PW e w0 wa (aJ t (2*i+1) (fC [(x,.cells (aj m m.c d c) 39 (0,0))])) L) (fun x a cap w2=>PW e w0 w2 (aJ (aJ t (2*i+1) (fC [(x,.cells (aj m m.c d c) 39 (0,0))])) (2 * (i+1)+1) (fi a (L.S.fr m).1 cap (L.S.fr m).2)) L) (fun w'=>PWn e w0 t L w' (L.S.dlv m k).S) (fun wa ew=>?_) (fun x wa hq=>?_) (fun x a cap w2 H=>?_) (fun hs=>?_) (fun hs x a cap w2 H=>?_) (fun hs x a cap w2 H=>?_)
 ·subst ew
  refine h.layL (aF (Below.refl _ w) _) f0.1 (fun p hp=>?_) (fun p hp=>?_)
  ·simp only[List.mem_cons,List.not_mem_nil,or_false]at hp
   subst hp
   exact aB w _
  ·simp only[List.mem_cons,List.not_mem_nil,or_false]at hp
   subst hp
   exact Nat.le_refl _
 ·exact wv e w0 wa _ L (i+1) m d c hq (Fa x) h0 h1 hw h4
 ·have h9:=H.out
  refine h9.1.get (i:=2*i+1) (x:=fC [(x,.cells (aj m m.c d c) 39 (0,0))]) ?_ (x,_) (by simp)
  rw[an _ _ (by omega),al]
 ·unfold Ws.dlv
  rw[if_pos hs]
  rfl
 ·have e1:L.S.dlv m k=L.S.toH k (L.S.fr m):=if_pos hs
  rw[e1,hc]
  refine (yZ e w0 w2 _ L k (L.S.fr m) a cap (2 * (i+1)+1) H.out hk (by omega) (Fa x (i+1) (Nat.le_refl _)).1 (al _ _ _) hHL).mono ?_
  rintro r w' ⟨rfl,H3⟩
  exact⟨rfl,hdrop x a cap w' _ H3.out⟩
 ·have e1:L.S.dlv m k=L.S.toD k (L.S.fr m):=if_neg hs
  rw[e1,hc]
  refine (abb e w0 w2 _ L k (L.S.fr m) a cap (i+1+1) (2 * (i+1)+1) H.out (Fb x a cap) hk hF hB (Fa x (i+1) (Nat.le_refl _)).1 (by omega) (al _ _ _) hsn ho hL htm hb hf).mono ?_
  rintro r w' ⟨rfl,H3⟩
  exact⟨rfl,hdrop x a cap w' _ H3.out⟩
theorem xF (h d mm:Nat) (m:Mv) (da:Option Addr) (c:Nat) (E:Int) (w:World) (Z:World→Prop)
  (hH:m.s=1→∀ wx,Below w.heap.size w wx→Calls prog 84 #[ac h 0] wx fun r w'=>r=.returned (.int .i64 E)∧Hid (Z w'))
  (hD:m.s≠1→∀ wx,Below w.heap.size w wx→Calls prog 85 #[ac d 0,.int .i64 m.n] wx fun r w'=>r=.returned (.int .i64 E)∧Hid (Z w')) :
  Calls prog 58 #[.agg (aA h d mm),.agg (aj m m.c da c)] w fun r w'=>r=.returned (.int .i64 E)∧Hid (Z w'):=by
 have kA:=aB w (.cells (aA h d mm) 80)
 have bA:=aF (Below.refl _ w) (.cells (aA h d mm) 80)
 have zA:(w.alloc (.cells (aA h d mm) 80)).heap.size=w.heap.size+1:=Array.size_push ..
 obtain⟨wa,hwa⟩:∃ y,w.alloc (.cells (aA h d mm) 80)=y:=⟨_,rfl⟩
 rw[hwa]at kA bA zA
 have kB:=aB wa (.cells (aj m m.c da c) 39)
 have bB:=aF (Below.refl _ wa) (.cells (aj m m.c da c) 39)
 obtain⟨wb,hwb⟩:∃ y,wa.alloc (.cells (aj m m.c da c) 39)=y:=⟨_,rfl⟩
 rw[hwb]at kB bB
 obtain⟨x,hx⟩:∃ y,w.heap.size=y:=⟨_,rfl⟩
 obtain⟨y,hy⟩:∃ y,wa.heap.size=y:=⟨_,rfl⟩
 have kA2:wb.heap[x]?=some (.cells (aA h d mm) 80 (0,0)):=by
  rw[← hx]
  exact (bB.block _ (by omega)).trans kA
 have kB2:wb.heap[y]?=some (.cells (aj m m.c da c) 39 (0,0)):=by
  rw[← hy]
  exact kB
 have bW:Below w.heap.size w wb:=bA.trans (bB.mono bA.size)
 have q0:wb.cell? ⟨x,0,none⟩=some (ac h 0):=ae wb x 0 _ _ _ kA2
 have q1:wb.cell? ⟨x,1,none⟩=some (ac d 0):=ae wb x 1 _ _ _ kA2
 have r2:wb.cell? ⟨y,2,none⟩=some (.int .i64 m.s):=ae wb y 2 _ _ _ kB2
 have r6:wb.cell? ⟨y,6,none⟩=some (.int .i64 m.n):=ae wb y 6 _ _ _ kB2
 have HE:Hid (_=wa):=hwa
 have HE2:Hid (_=wb):=hwb
 have HS:Hid (w.heap.size=x):=hx
 have HS2:Hid (w.heap.size+1=y):=zA.symm.trans hy
 by_cases hs:m.s=1
 ·have hH:=hH hs wb bW
  have q:(m.s == 1)=true:=by simpa using hs
  clear hD hs kA kB bA bB bW zA kA2 kB2 hwa hwb hx hy
  go_enter func58,ntmps58
  go_upto_region 1 with fail
  rw[HE.out,HE2.out,HS2.out,HS.out]
  go_wp2_with fail
  refine hH.mono ?_
  rintro r w3 ⟨rfl,H3⟩
  go_wp2_with fail
  go_ret
  exact⟨rfl,H3⟩
 ·have hD:=hD hs wb bW
  have q:(m.s == 1)=false:=by simpa using hs
  clear hH hs kA kB bA bB bW zA kA2 kB2 hwa hwb hx hy
  go_enter func58,ntmps58
  go_upto_region 1 with fail
  rw[HE.out,HE2.out,HS2.out,HS.out]
  go_wp2_with fail
  refine hD.mono ?_
  rintro r w3 ⟨rfl,H3⟩
  go_wp2_with fail
  go_ret
  exact⟨rfl,H3⟩
theorem ax {a b:Int} (h:a≠b):(a == b)=false:=by simpa using h
theorem ck {a b:Int} (h:a=b):(a == b)=true:=by simpa using h
theorem sK (s:Int) (w:World):Calls prog 51 #[.int .i64 s] w fun r w'=>r=.returned (.bool ((s == 1) || (s == 2)))∧w'=w:=by
 by_cases h1:s=1
 ·have q1:=ck h1
  rw[q1]
  clear h1
  go_enter func51,ntmps51
  go_wp2_with fail
  go_ret
  exact⟨rfl,rfl⟩
 ·have q1:=ax h1
  obtain⟨B,q2⟩:∃ y,(s == 2)=y:=⟨_,rfl⟩
  rw[q1,q2]
  clear h1
  go_enter func51,ntmps51
  go_wp2_with fail
  go_ret
  exact⟨rfl,rfl⟩
theorem ug (k:Int) (w:World):Calls prog 50 #[.int .i64 k] w fun r w'=>r=.returned (.bool (eZ k))∧w'=w:=by
 unfold eZ
 by_cases h1:k=2
 ·have q1:(k != 2)=false:=congrArg not (ck h1)
  rw[q1]
  clear h1
  go_enter func50,ntmps50
  go_wp2_with fail
  go_ret
  exact⟨rfl,rfl⟩
 ·have q1:(k != 2)=true:=congrArg not (ax h1)
  obtain⟨B,q2⟩:∃ y,(k != 8)=y:=⟨_,rfl⟩
  rw[q1,q2]
  clear h1
  go_enter func50,ntmps50
  go_wp2_with fail
  go_ret
  exact⟨rfl,rfl⟩
theorem ab6 (X:Nat) (a:Option Addr) (n c:Nat) (k:Int) (w:World) (cv:w.cell? ⟨X,3,none⟩=some (.slice a n c)):Calls prog 49 #[ac X 0,.int .i64 k] w fun r w'=>r=.returned (.bool (decide (0≤k∧k < ((n:Nat):Int))))∧w'=w:=by
 obtain⟨R,hR⟩:∃ y,decide (0≤k∧k < ((n:Nat):Int))=y:=⟨_,rfl⟩
 rw[hR]
 by_cases h1:0≤k
 ·by_cases h2:k < ((n:Nat):Int)
  ·rw[decide_eq_true ⟨h1,h2⟩]at hR
   subst hR
   go_enter func49,ntmps49
   go_wp2_with fail
   go_ret
   exact⟨rfl,rfl⟩
  ·rw[decide_eq_false (fun q=>h2 q.2)]at hR
   subst hR
   go_enter func49,ntmps49
   go_wp2_with fail
   go_ret
   exact⟨rfl,rfl⟩
 ·rw[decide_eq_false (fun q=>h1 q.1)]at hR
  subst hR
  go_enter func49,ntmps49
  go_wp2_with fail
  go_ret
  exact⟨rfl,rfl⟩
def xI (m:Mv):Int:=if m.k=5 then 1048576 else if m.k=7∧m.s=1 then 0 else 9223372036854775807
theorem jw (m:Mv) (d:Option Addr) (c:Nat) (w:World):Calls prog 79 #[.agg (aj m m.c d c)] w fun r w'=>r=.returned (.int .i64 (xI m))∧Below w.heap.size w w':=by
 have kA:=aB w (.cells (aj m m.c d c) 39)
 have bA:=aF (Below.refl _ w) (.cells (aj m m.c d c) 39)
 obtain⟨wa,hwa⟩:∃ y,w.alloc (.cells (aj m m.c d c) 39)=y:=⟨_,rfl⟩
 rw[hwa]at kA bA
 have HB:Hid (_):=bA
 obtain⟨x,hx⟩:∃ y,w.heap.size=y:=⟨_,rfl⟩
 have HS:Hid (w.heap.size=x):=hx
 rw[hx]at kA
 have q0:wa.cell? ⟨x,0,none⟩=some (.int .i64 m.k):=ae wa x 0 _ _ _ kA
 have q2:wa.cell? ⟨x,2,none⟩=some (.int .i64 m.s):=ae wa x 2 _ _ _ kA
 have HE:Hid (_=wa):=hwa
 clear kA bA hwa hx
 unfold xI
 by_cases h5:m.k=5
 ·rw[if_pos h5]
  have u:=ck h5
  clear h5
  go_enter func79,ntmps79
  go_upto_region 1 with fail
  rw[HE.out,HS.out]
  go_wp2_with fail
  go_ret
  exact⟨rfl,HB.out⟩
 ·rw[if_neg h5]
  have u:=ax h5
  by_cases h7:m.k=7
  ·have u2:=ck h7
   by_cases h1:m.s=1
   ·rw[if_pos ⟨h7,h1⟩]
    have u3:=ck h1
    clear h5 h7 h1
    go_enter func79,ntmps79
    go_upto_region 1 with fail
    rw[HE.out,HS.out]
    go_wp2_with fail
    go_ret
    exact⟨rfl,HB.out⟩
   ·rw[if_neg (fun q=>h1 q.2)]
    have u3:=ax h1
    clear h5 h7 h1
    go_enter func79,ntmps79
    go_upto_region 1 with fail
    rw[HE.out,HS.out]
    go_wp2_with fail
    go_ret
    exact⟨rfl,HB.out⟩
  ·rw[if_neg (fun q=>h7 q.1)]
   have u2:=ax h7
   clear h5 h7
   go_enter func79,ntmps79
   go_upto_region 1 with fail
   rw[HE.out,HS.out]
   go_wp2_with fail
   go_ret
   exact⟨rfl,HB.out⟩
end Go.Proofs.YtenilkloffnjlaaGreat
