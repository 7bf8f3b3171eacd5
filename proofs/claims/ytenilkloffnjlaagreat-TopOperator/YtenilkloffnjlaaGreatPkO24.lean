/- Part 25: contracts that the proof rests on. -/
import Derived.Test.YtenilkloffnjlaaGreatPkO23
set_option maxHeartbeats 64000000
set_option maxRecDepth 100000
namespace Go.Proofs.YtenilkloffnjlaaGreat
open Tryz
open Go.RowKit Go.Maps
set_option linter.unusedVariables false
theorem qX {e:Nat→Nat} {w0 w:World} {t:Nat→Thing} {L:Pw} {S:Ws} {k:Nat} (h:PWn e w0 t L w S) (hk:k<S.n) {Fn:FuncId} {u:Array Value} {E:Int} {s':Sh} (hc:∀ U,HV w (L.hd k) (S.PH k) U (S.hs k)→Calls prog Fn u w fun r w'=>r=.returned (.int .i64 E)∧Hid (∃ U',Gr U w U' w'∧HV w' (L.hd k) (S.PH k) U' s')):Calls prog Fn u w fun r w'=>r=.returned (.int .i64 E)∧Hid (PWn e w0 t L w' (S.setH k s')):=by
 obtain⟨t1,L1,h1,hs,hx,he⟩:=h
 subst hs
 have hv:=h1.2.hv h1.1 hk
 rw[hx.hd]at hv
 refine (hc _ hv).mono ?_
 rintro r w' ⟨rfl,H⟩
 exact⟨rfl,PWn.bind hx he (h1.stepH hk (by rw[hx.hd];exact H.out))⟩
theorem nI {e:Nat→Nat} {w0 w:World} {t:Nat→Thing} {L:Pw} {S:Ws} {k:Nat} (h:PWn e w0 t L w S) (hk:k<S.n) {Fn:FuncId} {u:Array Value} {E:Int} {s':Sd} (hc:∀ g U,DV w (L.dd k) (L.dm k) g 16 S.mx (S.PD k) U (S.ds k)→Calls prog Fn u w fun r w'=>r=.returned (.int .i64 E)∧Hid (∃ U',Gr U w U' w'∧DV w' (L.dd k) (L.dm k) g 16 S.mx (S.PD k) U' s')):Calls prog Fn u w fun r w'=>r=.returned (.int .i64 E)∧Hid (PWn e w0 t L w' (S.setD k s')):=by
 obtain⟨t1,L1,h1,hs,hx,he⟩:=h
 subst hs
 have dv:=h1.2.dv h1.1 hk
 rw[hx.dd,hx.dm]at dv
 refine (hc _ _ dv).mono ?_
 rintro r w' ⟨rfl,H⟩
 exact⟨rfl,PWn.bind hx he (h1.stepD hk (by rw[hx.dd,hx.dm];exact H.out))⟩
theorem iV {e:Nat→Nat} {w0 w:World} {t:Nat→Thing} {L:Pw} {S:Ws} (x:Int) (k c s ss nn:Nat) (h:PWn e w0 t L w S) (hF:S.fs.length≤100000):Calls prog 56 #[ac L.x 0,.int .i64 x,.agg #[.int .i64 (k:Nat),.int .i64 (c:Nat),.int .i64 (s:Nat),.int .u32 (ss:Nat),.int .u32 (nn:Nat),.bool false,.int .i64 0,.slice none 0 0]] w fun r w'=>r=.returned (.tuple #[])∧Hid (PWn e w0 t L w' (S.note (if x=0 then [⟨k,c,s,ss,nn,false,0,ep⟩] else []))):=by
 obtain⟨t1,L1,h1,hs,hx,he⟩:=h
 subst hs
 have:=xk e w0 w t1 L1 x k c s ss nn h1 hF
 rw[hx.x]at this
 refine this.mono ?_
 rintro r w' ⟨rfl,H⟩
 exact⟨rfl,PWn.bind hx he H.out⟩
theorem ry {e:Nat→Nat} {w0 w:World} {t:Nat→Thing} {L:Pw} {S:Ws} (k c s ss nn:Nat) (h:PWn e w0 t L w S) (hF:S.fs.length≤100000):Calls prog 57 #[ac L.x 0,.agg #[.int .i64 (k:Nat),.int .i64 (c:Nat),.int .i64 (s:Nat),.int .u32 (ss:Nat),.int .u32 (nn:Nat),.bool false,.int .i64 0,.slice none 0 0]] w fun r w'=>r=.returned (.tuple #[])∧Hid (PWn e w0 t L w' (S.note [⟨k,c,s,ss,nn,false,0,ep⟩])):=by
 obtain⟨t1,L1,h1,hs,hx,he⟩:=h
 subst hs
 have:=kG e w0 w t1 L1 k c s ss nn h1 hF
 rw[hx.x]at this
 refine this.mono ?_
 rintro r w' ⟨rfl,H⟩
 exact⟨rfl,PWn.bind hx he H.out⟩
theorem yZ {e:Nat→Nat} {w0 w:World} {t:Nat→Thing} {L:Pw} {S:Ws} (k i:Nat) (m:Mv) (d:Option Addr) (c:Nat) (h:PWn e w0 t L w S) (F:Fre e t i) (hk:k<S.n) (hs:m.s=1) (h1:m.k=1) (j:Nat) (hj:j<2*i+1) (hq:∀ q,j≠e q) (hr:t j=dA d m.l c m.b):Calls prog 28 #[ac L.x 0,.agg (aj m (k:Nat) d c)] w fun r w'=>r=.returned (.tuple #[.int .i64 (gZ (S.PH k) m.l),.int .i64 (-1)])∧Hid (PWn e w0 t L w' (S.setH k (eu (S.PH k) (S.hs k) m.l m.b m.h))):=by
 obtain⟨cv,c0,c1,c2⟩:=h.conn hk
 have i0:=F i (Nat.le_refl _)
 obtain⟨t2,ht2⟩:∃ y,aI t (2*i+1) (dN [(w.heap.size,.cells (aj m (k:Nat) d c) 39 (0,0)),(w.heap.size+1,.cells (au (L.hd k) (L.dd k) (L.dm k)) 80 (0,0))])=y:=⟨_,rfl⟩
 have e2:t2 (2*i+1)=dN [(w.heap.size,.cells (aj m (k:Nat) d c) 39 (0,0)),(w.heap.size+1,.cells (au (L.hd k) (L.dd k) (L.dm k)) 80 (0,0))]:=by rw[← ht2,ak]
 have hLay:∀ w1,Below w.heap.size w w1→w1.heap[w.heap.size]?=some (.cells (aj m (k:Nat) d c) 39 (0,0))→w1.heap[w.heap.size+1]?=some (.cells (au (L.hd k) (L.dd k) (L.dm k)) 80 (0,0))→PWn e w0 t2 L w1 S:=fun w1 b k1 k2=>by
  rw[← ht2]
  refine h.layL b i0.1 (fun p hp=>?_) (fun p hp=>?_)
  ·simp only[List.mem_cons,List.not_mem_nil,or_false]at hp
   rcases hp with rfl | rfl
   ·exact k1
   ·exact k2
  ·simp only[List.mem_cons,List.not_mem_nil,or_false]at hp
   rcases hp with rfl | rfl
   ·exact Nat.le_refl _
   ·exact Nat.le_succ _
 have hX:∀ S2 w1,PWn e w0 t2 L w1 S2→w1.heap[w.heap.size]?=some (.cells (aj m (k:Nat) d c) 39 (0,0))∧w1.heap[w.heap.size+1]?=some (.cells (au (L.hd k) (L.dd k) (L.dm k)) 80 (0,0)):=fun S2 w1 q=>⟨q.box i0.1 e2 _ (List.mem_cons_self ..),q.box i0.1 e2 _ (List.mem_cons_of_mem _ (List.mem_cons_self ..))⟩
 have hDrop:∀ S2 w1,PWn e w0 t2 L w1 S2→PWn e w0 t L w1 S2:=fun S2 w1 q=>by
  rw[← ht2]at q
  exact q.drop i0.1 i0.2
 have e3:t2 j=t j:=by rw[← ht2,al _ _ (by omega)]
 refine (yg L.x (fN L.vc) (iF L.vc) S.n k (L.hd k) (L.dd k) (L.dm k) m d c 76 258 (L.hd k) (gZ (S.PH k) m.l) w (fun w1 => PWn e w0 t2 L w1 S) (fun w1 => PWn e w0 t2 L w1 (S.setH k (eu (S.PH k) (S.hs k) m.l m.b m.h))) cv c0 c1 c2 (by omega) (ay (by omega)) (ay (by omega)) (ay (by omega)) (cz h1) (fun w1 => by rw [hs]; exact uF (L.hd k) (L.dd k) (L.dm k) w1) (fun w1 => (by kernel_rfl : (method 438 76 (.pointer (some ⟨L.hd k, 0, none⟩)) "Write").run prog w1 = .ok (258, .pointer (some ⟨L.hd k, 0, none⟩)) w1)) (fun u w1 => (by kernel_rfl : (callFunc 258 u).run prog w1 = .ok (.enter 258 u) w1)) hLay (fun _ _ q b => q.below b) (fun w1 q => qX q hk (fun U hv => qk (L.hd k) (S.PH k) U (S.hs k) d m.l c m.b m.h w1 hv (q.rowq hq (e3.trans hr)))) (fun w1 q => hX _ _ q.out)).mono ?_
 rintro r w' ⟨rfl,H⟩
 exact⟨rfl,hDrop _ _ H.out⟩
theorem yY {e:Nat→Nat} {w0 w:World} {t:Nat→Thing} {L:Pw} {S:Ws} (k i:Nat) (m:Mv) (d:Option Addr) (c:Nat) (h:PWn e w0 t L w S) (F:Fre e t i) (hk:k<S.n) (hs:m.s=2) (h1:m.k=1) (j:Nat) (hj:j<2*i+1) (hq:∀ q,j≠e q) (hr:t j=dA d m.l c m.b):Calls prog 28 #[ac L.x 0,.agg (aj m (k:Nat) d c)] w fun r w'=>r=.returned (.tuple #[.int .i64 (gW (S.PD k) (S.ds k) m.l),.int .i64 (-1)])∧Hid (PWn e w0 t L w' (S.setD k (eo (S.PD k) (S.ds k) m.l m.b m.h))):=by
 obtain⟨cv,c0,c1,c2⟩:=h.conn hk
 have i0:=F i (Nat.le_refl _)
 obtain⟨t2,ht2⟩:∃ y,aI t (2*i+1) (dN [(w.heap.size,.cells (aj m (k:Nat) d c) 39 (0,0)),(w.heap.size+1,.cells (au (L.hd k) (L.dd k) (L.dm k)) 80 (0,0))])=y:=⟨_,rfl⟩
 have e2:t2 (2*i+1)=dN [(w.heap.size,.cells (aj m (k:Nat) d c) 39 (0,0)),(w.heap.size+1,.cells (au (L.hd k) (L.dd k) (L.dm k)) 80 (0,0))]:=by rw[← ht2,ak]
 have hLay:∀ w1,Below w.heap.size w w1→w1.heap[w.heap.size]?=some (.cells (aj m (k:Nat) d c) 39 (0,0))→w1.heap[w.heap.size+1]?=some (.cells (au (L.hd k) (L.dd k) (L.dm k)) 80 (0,0))→PWn e w0 t2 L w1 S:=fun w1 b k1 k2=>by
  rw[← ht2]
  refine h.layL b i0.1 (fun p hp=>?_) (fun p hp=>?_)
  ·simp only[List.mem_cons,List.not_mem_nil,or_false]at hp
   rcases hp with rfl | rfl
   ·exact k1
   ·exact k2
  ·simp only[List.mem_cons,List.not_mem_nil,or_false]at hp
   rcases hp with rfl | rfl
   ·exact Nat.le_refl _
   ·exact Nat.le_succ _
 have hX:∀ S2 w1,PWn e w0 t2 L w1 S2→w1.heap[w.heap.size]?=some (.cells (aj m (k:Nat) d c) 39 (0,0))∧w1.heap[w.heap.size+1]?=some (.cells (au (L.hd k) (L.dd k) (L.dm k)) 80 (0,0)):=fun S2 w1 q=>⟨q.box i0.1 e2 _ (List.mem_cons_self ..),q.box i0.1 e2 _ (List.mem_cons_of_mem _ (List.mem_cons_self ..))⟩
 have hDrop:∀ S2 w1,PWn e w0 t2 L w1 S2→PWn e w0 t L w1 S2:=fun S2 w1 q=>by
  rw[← ht2]at q
  exact q.drop i0.1 i0.2
 have e3:t2 j=t j:=by rw[← ht2,al _ _ (by omega)]
 refine (yg L.x (fN L.vc) (iF L.vc) S.n k (L.hd k) (L.dd k) (L.dm k) m d c 77 267 (L.dd k) (gW (S.PD k) (S.ds k) m.l) w (fun w1 => PWn e w0 t2 L w1 S) (fun w1 => PWn e w0 t2 L w1 (S.setD k (eo (S.PD k) (S.ds k) m.l m.b m.h))) cv c0 c1 c2 (by omega) (ay (by omega)) (ay (by omega)) (ay (by omega)) (cz h1) (fun w1 => by rw [hs]; exact uE (L.hd k) (L.dd k) (L.dm k) w1) (fun w1 => (by kernel_rfl : (method 438 77 (.pointer (some ⟨L.dd k, 0, none⟩)) "Write").run prog w1 = .ok (267, .pointer (some ⟨L.dd k, 0, none⟩)) w1)) (fun u w1 => (by kernel_rfl : (callFunc 267 u).run prog w1 = .ok (.enter 267 u) w1)) hLay (fun _ _ q b => q.below b) (fun w1 q => nI q hk (fun g U dv => nT (L.dd k) (L.dm k) g 16 S.mx (S.PD k) U (S.ds k) d m.l c m.b m.h w1 dv (q.rowq hq (e3.trans hr)))) (fun w1 q => hX _ _ q.out)).mono ?_
 rintro r w' ⟨rfl,H⟩
 exact⟨rfl,hDrop _ _ H.out⟩
theorem zb {e:Nat→Nat} {w0 w:World} {t:Nat→Thing} {L:Pw} {S:Ws} (k i:Nat) (m:Mv) (d:Option Addr) (c:Nat) (h:PWn e w0 t L w S) (F:Fre e t i) (hk:k<S.n) (hs:m.s=1) (h5:m.k=5) (hn:0≤m.n∧m.n≤1048576) (hF:S.fs.length≤90000) (hL:(S.hs k).L.length<800000):Calls prog 28 #[ac L.x 0,.agg (aj m (k:Nat) d c)] w fun r w'=>r=.returned (.tuple #[.int .i64 (fa m.n),.int .i64 (-1)])∧Hid (PWn e w0 t L w' ((S.setH k (fc (S.PH k) (S.hs k) m.n)).note (if (fa m.n)=0 then [⟨5,k,1,0,m.n.toNat,false,0,ep⟩] else []))):=by
 obtain⟨cv,c0,c1,c2⟩:=h.conn hk
 have i0:=F i (Nat.le_refl _)
 obtain⟨t2,ht2⟩:∃ y,aI t (2*i+1) (dN [(w.heap.size,.cells (aj m (k:Nat) d c) 39 (0,0)),(w.heap.size+1,.cells (au (L.hd k) (L.dd k) (L.dm k)) 80 (0,0))])=y:=⟨_,rfl⟩
 have e2:t2 (2*i+1)=dN [(w.heap.size,.cells (aj m (k:Nat) d c) 39 (0,0)),(w.heap.size+1,.cells (au (L.hd k) (L.dd k) (L.dm k)) 80 (0,0))]:=by rw[← ht2,ak]
 have hLay:∀ w1,Below w.heap.size w w1→w1.heap[w.heap.size]?=some (.cells (aj m (k:Nat) d c) 39 (0,0))→w1.heap[w.heap.size+1]?=some (.cells (au (L.hd k) (L.dd k) (L.dm k)) 80 (0,0))→PWn e w0 t2 L w1 S:=fun w1 b k1 k2=>by
  rw[← ht2]
  refine h.layL b i0.1 (fun p hp=>?_) (fun p hp=>?_)
  ·simp only[List.mem_cons,List.not_mem_nil,or_false]at hp
   rcases hp with rfl | rfl
   ·exact k1
   ·exact k2
  ·simp only[List.mem_cons,List.not_mem_nil,or_false]at hp
   rcases hp with rfl | rfl
   ·exact Nat.le_refl _
   ·exact Nat.le_succ _
 have hX:∀ S2 w1,PWn e w0 t2 L w1 S2→w1.heap[w.heap.size]?=some (.cells (aj m (k:Nat) d c) 39 (0,0))∧w1.heap[w.heap.size+1]?=some (.cells (au (L.hd k) (L.dd k) (L.dm k)) 80 (0,0)):=fun S2 w1 q=>⟨q.box i0.1 e2 _ (List.mem_cons_self ..),q.box i0.1 e2 _ (List.mem_cons_of_mem _ (List.mem_cons_self ..))⟩
 have hDrop:∀ S2 w1,PWn e w0 t2 L w1 S2→PWn e w0 t L w1 S2:=fun S2 w1 q=>by
  rw[← ht2]at q
  exact q.drop i0.1 i0.2
 have hN:m.n=((m.n.toNat:Nat):Int):=by omega
 refine (yh L.x (fN L.vc) (iF L.vc) S.n k (L.hd k) (L.dd k) (L.dm k) m d c 76 257 (L.hd k) (fa m.n) w m.n.toNat hN (by omega) (fun w1 => PWn e w0 t2 L w1 S) (fun w1 => PWn e w0 t2 L w1 (S.setH k (fc (S.PH k) (S.hs k) m.n))) (fun w1 => PWn e w0 t2 L w1 ((S.setH k (fc (S.PH k) (S.hs k) m.n)).note (if (fa m.n) = 0 then [⟨5, k, 1, 0, m.n.toNat, false, 0, ep⟩] else []))) cv c0 c1 c2 (by omega) (ay (by omega)) (ay (by omega)) (ay (by omega)) (ay (by omega)) (cz h5) (fun w1 => by rw [hs]; exact uF (L.hd k) (L.dd k) (L.dm k) w1) (fun w1 => (by kernel_rfl : (method 438 76 (.pointer (some ⟨L.hd k, 0, none⟩)) "Tick").run prog w1 = .ok (257, .pointer (some ⟨L.hd k, 0, none⟩)) w1)) (fun u w1 => (by kernel_rfl : (callFunc 257 u).run prog w1 = .ok (.enter 257 u) w1)) hLay (fun _ _ q b => q.below b) (fun w1 q => qX q hk (fun U hv => sP (L.hd k) (S.PH k) U (S.hs k) m.n w1 hv (by omega) hL)) (fun w1 q => hX _ _ q.out) (fun w1 q => by rw [hs]; exact iV (fa m.n) 5 k 1 0 m.n.toNat q.out (by show S.fs.length ≤ 100000; omega))).mono ?_
 rintro r w' ⟨rfl,H⟩
 exact⟨rfl,hDrop _ _ H.out⟩
theorem za {e:Nat→Nat} {w0 w:World} {t:Nat→Thing} {L:Pw} {S:Ws} (k i:Nat) (m:Mv) (d:Option Addr) (c:Nat) (h:PWn e w0 t L w S) (F:Fre e t i) (hk:k<S.n) (hs:m.s=2) (h5:m.k=5) (hn:0≤m.n∧m.n≤1048576) (hF:S.fs.length≤90000) (hL:(S.ds k).L.length<800000):Calls prog 28 #[ac L.x 0,.agg (aj m (k:Nat) d c)] w fun r w'=>r=.returned (.tuple #[.int .i64 (eX (S.ds k) m.n),.int .i64 (-1)])∧Hid (PWn e w0 t L w' ((S.setD k (eY (S.PD k) (S.ds k) m.n)).note (if (eX (S.ds k) m.n)=0 then [⟨5,k,2,0,m.n.toNat,false,0,ep⟩] else []))):=by
 obtain⟨cv,c0,c1,c2⟩:=h.conn hk
 have i0:=F i (Nat.le_refl _)
 obtain⟨t2,ht2⟩:∃ y,aI t (2*i+1) (dN [(w.heap.size,.cells (aj m (k:Nat) d c) 39 (0,0)),(w.heap.size+1,.cells (au (L.hd k) (L.dd k) (L.dm k)) 80 (0,0))])=y:=⟨_,rfl⟩
 have e2:t2 (2*i+1)=dN [(w.heap.size,.cells (aj m (k:Nat) d c) 39 (0,0)),(w.heap.size+1,.cells (au (L.hd k) (L.dd k) (L.dm k)) 80 (0,0))]:=by rw[← ht2,ak]
 have hLay:∀ w1,Below w.heap.size w w1→w1.heap[w.heap.size]?=some (.cells (aj m (k:Nat) d c) 39 (0,0))→w1.heap[w.heap.size+1]?=some (.cells (au (L.hd k) (L.dd k) (L.dm k)) 80 (0,0))→PWn e w0 t2 L w1 S:=fun w1 b k1 k2=>by
  rw[← ht2]
  refine h.layL b i0.1 (fun p hp=>?_) (fun p hp=>?_)
  ·simp only[List.mem_cons,List.not_mem_nil,or_false]at hp
   rcases hp with rfl | rfl
   ·exact k1
   ·exact k2
  ·simp only[List.mem_cons,List.not_mem_nil,or_false]at hp
   rcases hp with rfl | rfl
   ·exact Nat.le_refl _
   ·exact Nat.le_succ _
 have hX:∀ S2 w1,PWn e w0 t2 L w1 S2→w1.heap[w.heap.size]?=some (.cells (aj m (k:Nat) d c) 39 (0,0))∧w1.heap[w.heap.size+1]?=some (.cells (au (L.hd k) (L.dd k) (L.dm k)) 80 (0,0)):=fun S2 w1 q=>⟨q.box i0.1 e2 _ (List.mem_cons_self ..),q.box i0.1 e2 _ (List.mem_cons_of_mem _ (List.mem_cons_self ..))⟩
 have hDrop:∀ S2 w1,PWn e w0 t2 L w1 S2→PWn e w0 t L w1 S2:=fun S2 w1 q=>by
  rw[← ht2]at q
  exact q.drop i0.1 i0.2
 have hN:m.n=((m.n.toNat:Nat):Int):=by omega
 refine (yh L.x (fN L.vc) (iF L.vc) S.n k (L.hd k) (L.dd k) (L.dm k) m d c 77 266 (L.dd k) (eX (S.ds k) m.n) w m.n.toNat hN (by omega) (fun w1 => PWn e w0 t2 L w1 S) (fun w1 => PWn e w0 t2 L w1 (S.setD k (eY (S.PD k) (S.ds k) m.n))) (fun w1 => PWn e w0 t2 L w1 ((S.setD k (eY (S.PD k) (S.ds k) m.n)).note (if (eX (S.ds k) m.n) = 0 then [⟨5, k, 2, 0, m.n.toNat, false, 0, ep⟩] else []))) cv c0 c1 c2 (by omega) (ay (by omega)) (ay (by omega)) (ay (by omega)) (ay (by omega)) (cz h5) (fun w1 => by rw [hs]; exact uE (L.hd k) (L.dd k) (L.dm k) w1) (fun w1 => (by kernel_rfl : (method 438 77 (.pointer (some ⟨L.dd k, 0, none⟩)) "Tick").run prog w1 = .ok (266, .pointer (some ⟨L.dd k, 0, none⟩)) w1)) (fun u w1 => (by kernel_rfl : (callFunc 266 u).run prog w1 = .ok (.enter 266 u) w1)) hLay (fun _ _ q b => q.below b) (fun w1 q => nI q hk (fun g U dv => pR (L.dd k) (L.dm k) g 16 S.mx (S.PD k) U (S.ds k) m.n w1 dv (by omega) hL)) (fun w1 q => hX _ _ q.out) (fun w1 q => by rw [hs]; exact iV (eX (S.ds k) m.n) 5 k 2 0 m.n.toNat q.out (by show S.fs.length ≤ 100000; omega))).mono ?_
 rintro r w' ⟨rfl,H⟩
 exact⟨rfl,hDrop _ _ H.out⟩
theorem ze {e:Nat→Nat} {w0 w:World} {t:Nat→Thing} {L:Pw} {S:Ws} (k i:Nat) (m:Mv) (d:Option Addr) (c:Nat) (h:PWn e w0 t L w S) (F:Fre e t i) (hk:k<S.n) (hs:m.s=1) (h6:m.k=6) (hF:S.fs.length≤90000):Calls prog 28 #[ac L.x 0,.agg (aj m (k:Nat) d c)] w fun r w'=>r=.returned (.tuple #[.int .i64 (eZ (S.hs k)),.int .i64 (-1)])∧Hid (PWn e w0 t L w' ((S.setH k (eM (S.hs k))).note (if (eZ (S.hs k))=0 then [dk 6 k 1] else []))):=by
 obtain⟨cv,c0,c1,c2⟩:=h.conn hk
 have i0:=F i (Nat.le_refl _)
 obtain⟨t2,ht2⟩:∃ y,aI t (2*i+1) (dN [(w.heap.size,.cells (aj m (k:Nat) d c) 39 (0,0)),(w.heap.size+1,.cells (au (L.hd k) (L.dd k) (L.dm k)) 80 (0,0))])=y:=⟨_,rfl⟩
 have e2:t2 (2*i+1)=dN [(w.heap.size,.cells (aj m (k:Nat) d c) 39 (0,0)),(w.heap.size+1,.cells (au (L.hd k) (L.dd k) (L.dm k)) 80 (0,0))]:=by rw[← ht2,ak]
 have hLay:∀ w1,Below w.heap.size w w1→w1.heap[w.heap.size]?=some (.cells (aj m (k:Nat) d c) 39 (0,0))→w1.heap[w.heap.size+1]?=some (.cells (au (L.hd k) (L.dd k) (L.dm k)) 80 (0,0))→PWn e w0 t2 L w1 S:=fun w1 b k1 k2=>by
  rw[← ht2]
  refine h.layL b i0.1 (fun p hp=>?_) (fun p hp=>?_)
  ·simp only[List.mem_cons,List.not_mem_nil,or_false]at hp
   rcases hp with rfl | rfl
   ·exact k1
   ·exact k2
  ·simp only[List.mem_cons,List.not_mem_nil,or_false]at hp
   rcases hp with rfl | rfl
   ·exact Nat.le_refl _
   ·exact Nat.le_succ _
 have hX:∀ S2 w1,PWn e w0 t2 L w1 S2→w1.heap[w.heap.size]?=some (.cells (aj m (k:Nat) d c) 39 (0,0))∧w1.heap[w.heap.size+1]?=some (.cells (au (L.hd k) (L.dd k) (L.dm k)) 80 (0,0)):=fun S2 w1 q=>⟨q.box i0.1 e2 _ (List.mem_cons_self ..),q.box i0.1 e2 _ (List.mem_cons_of_mem _ (List.mem_cons_self ..))⟩
 have hDrop:∀ S2 w1,PWn e w0 t2 L w1 S2→PWn e w0 t L w1 S2:=fun S2 w1 q=>by
  rw[← ht2]at q
  exact q.drop i0.1 i0.2
 refine (yi L.x (fN L.vc) (iF L.vc) S.n k (L.hd k) (L.dd k) (L.dm k) m d c 76 256 (L.hd k) (eZ (S.hs k)) w (fun w1 => PWn e w0 t2 L w1 S) (fun w1 => PWn e w0 t2 L w1 (S.setH k (eM (S.hs k)))) (fun w1 => PWn e w0 t2 L w1 ((S.setH k (eM (S.hs k))).note (if (eZ (S.hs k)) = 0 then [dk 6 k 1] else []))) cv c0 c1 c2 (by omega) (ay (by omega)) (ay (by omega)) (ay (by omega)) (ay (by omega)) (ay (by omega)) (cz h6) (fun w1 => by rw [hs]; exact uF (L.hd k) (L.dd k) (L.dm k) w1) (fun w1 => (by kernel_rfl : (method 438 76 (.pointer (some ⟨L.hd k, 0, none⟩)) "Ack").run prog w1 = .ok (256, .pointer (some ⟨L.hd k, 0, none⟩)) w1)) (fun u w1 => (by kernel_rfl : (callFunc 256 u).run prog w1 = .ok (.enter 256 u) w1)) hLay (fun _ _ q b => q.below b) (fun w1 q => qX q hk (fun U hv => uf (L.hd k) (S.PH k) U (S.hs k) w1 hv)) (fun w1 q => hX _ _ q.out) (fun w1 q => by rw [hs]; exact iV (eZ (S.hs k)) 6 k 1 0 0 q.out (by show S.fs.length ≤ 100000; omega))).mono ?_
 rintro r w' ⟨rfl,H⟩
 exact⟨rfl,hDrop _ _ H.out⟩
theorem zc {e:Nat→Nat} {w0 w:World} {t:Nat→Thing} {L:Pw} {S:Ws} (k i:Nat) (m:Mv) (d:Option Addr) (c:Nat) (h:PWn e w0 t L w S) (F:Fre e t i) (hk:k<S.n) (hs:m.s=2) (h6:m.k=6) (hF:S.fs.length≤90000):Calls prog 28 #[ac L.x 0,.agg (aj m (k:Nat) d c)] w fun r w'=>r=.returned (.tuple #[.int .i64 (dK (S.ds k)),.int .i64 (-1)])∧Hid (PWn e w0 t L w' ((S.setD k (cU (S.ds k))).note (if (dK (S.ds k))=0 then [dk 6 k 2] else []))):=by
 obtain⟨cv,c0,c1,c2⟩:=h.conn hk
 have i0:=F i (Nat.le_refl _)
 obtain⟨t2,ht2⟩:∃ y,aI t (2*i+1) (dN [(w.heap.size,.cells (aj m (k:Nat) d c) 39 (0,0)),(w.heap.size+1,.cells (au (L.hd k) (L.dd k) (L.dm k)) 80 (0,0))])=y:=⟨_,rfl⟩
 have e2:t2 (2*i+1)=dN [(w.heap.size,.cells (aj m (k:Nat) d c) 39 (0,0)),(w.heap.size+1,.cells (au (L.hd k) (L.dd k) (L.dm k)) 80 (0,0))]:=by rw[← ht2,ak]
 have hLay:∀ w1,Below w.heap.size w w1→w1.heap[w.heap.size]?=some (.cells (aj m (k:Nat) d c) 39 (0,0))→w1.heap[w.heap.size+1]?=some (.cells (au (L.hd k) (L.dd k) (L.dm k)) 80 (0,0))→PWn e w0 t2 L w1 S:=fun w1 b k1 k2=>by
  rw[← ht2]
  refine h.layL b i0.1 (fun p hp=>?_) (fun p hp=>?_)
  ·simp only[List.mem_cons,List.not_mem_nil,or_false]at hp
   rcases hp with rfl | rfl
   ·exact k1
   ·exact k2
  ·simp only[List.mem_cons,List.not_mem_nil,or_false]at hp
   rcases hp with rfl | rfl
   ·exact Nat.le_refl _
   ·exact Nat.le_succ _
 have hX:∀ S2 w1,PWn e w0 t2 L w1 S2→w1.heap[w.heap.size]?=some (.cells (aj m (k:Nat) d c) 39 (0,0))∧w1.heap[w.heap.size+1]?=some (.cells (au (L.hd k) (L.dd k) (L.dm k)) 80 (0,0)):=fun S2 w1 q=>⟨q.box i0.1 e2 _ (List.mem_cons_self ..),q.box i0.1 e2 _ (List.mem_cons_of_mem _ (List.mem_cons_self ..))⟩
 have hDrop:∀ S2 w1,PWn e w0 t2 L w1 S2→PWn e w0 t L w1 S2:=fun S2 w1 q=>by
  rw[← ht2]at q
  exact q.drop i0.1 i0.2
 refine (yi L.x (fN L.vc) (iF L.vc) S.n k (L.hd k) (L.dd k) (L.dm k) m d c 77 265 (L.dd k) (dK (S.ds k)) w (fun w1 => PWn e w0 t2 L w1 S) (fun w1 => PWn e w0 t2 L w1 (S.setD k (cU (S.ds k)))) (fun w1 => PWn e w0 t2 L w1 ((S.setD k (cU (S.ds k))).note (if (dK (S.ds k)) = 0 then [dk 6 k 2] else []))) cv c0 c1 c2 (by omega) (ay (by omega)) (ay (by omega)) (ay (by omega)) (ay (by omega)) (ay (by omega)) (cz h6) (fun w1 => by rw [hs]; exact uE (L.hd k) (L.dd k) (L.dm k) w1) (fun w1 => (by kernel_rfl : (method 438 77 (.pointer (some ⟨L.dd k, 0, none⟩)) "Ack").run prog w1 = .ok (265, .pointer (some ⟨L.dd k, 0, none⟩)) w1)) (fun u w1 => (by kernel_rfl : (callFunc 265 u).run prog w1 = .ok (.enter 265 u) w1)) hLay (fun _ _ q b => q.below b) (fun w1 q => nI q hk (fun g U dv => sq (L.dd k) (L.dm k) g 16 S.mx (S.PD k) U (S.ds k) w1 dv)) (fun w1 q => hX _ _ q.out) (fun w1 q => by rw [hs]; exact iV (dK (S.ds k)) 6 k 2 0 0 q.out (by show S.fs.length ≤ 100000; omega))).mono ?_
 rintro r w' ⟨rfl,H⟩
 exact⟨rfl,hDrop _ _ H.out⟩
theorem zg {e:Nat→Nat} {w0 w:World} {t:Nat→Thing} {L:Pw} {S:Ws} (k i:Nat) (m:Mv) (d:Option Addr) (c:Nat) (h:PWn e w0 t L w S) (F:Fre e t i) (hk:k<S.n) (hs:m.s=1) (h7:m.k=7) (hc:m.c=((k:Nat):Int)) (hF:S.fs.length≤90000):Calls prog 28 #[ac L.x 0,.agg (aj m (k:Nat) d c)] w fun r w'=>r=.returned (.tuple #[.int .i64 0,.int .i64 (-1)])∧Hid (PWn e w0 t L w' ((S.note [dk 7 k 1]).setH k (gi (S.hs k)))):=by
 obtain⟨cv,c0,c1,c2⟩:=h.conn hk
 have i0:=F i (Nat.le_refl _)
 obtain⟨t2,ht2⟩:∃ y,aI t (2*i+1) (dN [(w.heap.size,.cells (aj m (k:Nat) d c) 39 (0,0)),(w.heap.size+1,.cells (au (L.hd k) (L.dd k) (L.dm k)) 80 (0,0))])=y:=⟨_,rfl⟩
 have e2:t2 (2*i+1)=dN [(w.heap.size,.cells (aj m (k:Nat) d c) 39 (0,0)),(w.heap.size+1,.cells (au (L.hd k) (L.dd k) (L.dm k)) 80 (0,0))]:=by rw[← ht2,ak]
 have hLay:∀ w1,Below w.heap.size w w1→w1.heap[w.heap.size]?=some (.cells (aj m (k:Nat) d c) 39 (0,0))→w1.heap[w.heap.size+1]?=some (.cells (au (L.hd k) (L.dd k) (L.dm k)) 80 (0,0))→PWn e w0 t2 L w1 S:=fun w1 b k1 k2=>by
  rw[← ht2]
  refine h.layL b i0.1 (fun p hp=>?_) (fun p hp=>?_)
  ·simp only[List.mem_cons,List.not_mem_nil,or_false]at hp
   rcases hp with rfl | rfl
   ·exact k1
   ·exact k2
  ·simp only[List.mem_cons,List.not_mem_nil,or_false]at hp
   rcases hp with rfl | rfl
   ·exact Nat.le_refl _
   ·exact Nat.le_succ _
 have hX:∀ S2 w1,PWn e w0 t2 L w1 S2→w1.heap[w.heap.size]?=some (.cells (aj m (k:Nat) d c) 39 (0,0))∧w1.heap[w.heap.size+1]?=some (.cells (au (L.hd k) (L.dd k) (L.dm k)) 80 (0,0)):=fun S2 w1 q=>⟨q.box i0.1 e2 _ (List.mem_cons_self ..),q.box i0.1 e2 _ (List.mem_cons_of_mem _ (List.mem_cons_self ..))⟩
 have hDrop:∀ S2 w1,PWn e w0 t2 L w1 S2→PWn e w0 t L w1 S2:=fun S2 w1 q=>by
  rw[← ht2]at q
  exact q.drop i0.1 i0.2
 refine (yj L.x (fN L.vc) (iF L.vc) S.n k (L.hd k) (L.dd k) (L.dm k) m d c 0 w (fun w1=>PWn e w0 t2 L w1 S) (fun w1=>PWn e w0 t2 L w1 (S.note [dk 7 k 1])) (fun w1=>PWn e w0 t2 L w1 ((S.note [dk 7 k 1]).setH k (gi (S.hs k)))) cv c0 c1 c2 (by omega) (ay (by omega)) (ay (by omega)) (ay (by omega)) (ay (by omega)) (ay (by omega)) (ay (by omega)) (cz h7) hLay (fun _ _ q b=>q.below b) (fun w1 q=>by rw[hs];exact ry 7 k 1 0 0 q (by omega)) (fun w1 q=>hX _ _ q.out) (fun w1 q=>by
   have:=vS (L.hd k) (L.dd k) (L.dm k) m d c 0 w1 (fun w'=>PWn e w0 t2 L w' ((S.note [dk 7 k 1]).setH k (gi (S.hs k)))) (fun _ wx bx=>qX (q.out.below bx) hk (fun U hv=>qh (L.hd k) (S.PH k) U (S.hs k) wx hv)) (fun z=>absurd hs z)
   rw[hc]at this
   exact this)).mono ?_
 rintro r w' ⟨rfl,H⟩
 exact⟨rfl,hDrop _ _ H.out⟩
theorem zf {e:Nat→Nat} {w0 w:World} {t:Nat→Thing} {L:Pw} {S:Ws} (k i:Nat) (m:Mv) (d:Option Addr) (c:Nat) (h:PWn e w0 t L w S) (F:Fre e t i) (hk:k<S.n) (hs:m.s=2) (h7:m.k=7) (hc:m.c=((k:Nat):Int)) (hF:S.fs.length≤90000) (hn:0≤m.n∧m.n≤9223372036854775807) (ht:(S.ds k).ms.t<9223372036854774000):Calls prog 28 #[ac L.x 0,.agg (aj m (k:Nat) d c)] w fun r w'=>r=.returned (.tuple #[.int .i64 (fX S.mx 16 (S.ds k) m.n),.int .i64 (-1)])∧Hid (PWn e w0 t L w' ((S.note [dk 7 k 2]).setD k (cM S.mx 16 (S.ds k) m.n))):=by
 obtain⟨cv,c0,c1,c2⟩:=h.conn hk
 have i0:=F i (Nat.le_refl _)
 obtain⟨t2,ht2⟩:∃ y,aI t (2*i+1) (dN [(w.heap.size,.cells (aj m (k:Nat) d c) 39 (0,0)),(w.heap.size+1,.cells (au (L.hd k) (L.dd k) (L.dm k)) 80 (0,0))])=y:=⟨_,rfl⟩
 have e2:t2 (2*i+1)=dN [(w.heap.size,.cells (aj m (k:Nat) d c) 39 (0,0)),(w.heap.size+1,.cells (au (L.hd k) (L.dd k) (L.dm k)) 80 (0,0))]:=by rw[← ht2,ak]
 have hLay:∀ w1,Below w.heap.size w w1→w1.heap[w.heap.size]?=some (.cells (aj m (k:Nat) d c) 39 (0,0))→w1.heap[w.heap.size+1]?=some (.cells (au (L.hd k) (L.dd k) (L.dm k)) 80 (0,0))→PWn e w0 t2 L w1 S:=fun w1 b k1 k2=>by
  rw[← ht2]
  refine h.layL b i0.1 (fun p hp=>?_) (fun p hp=>?_)
  ·simp only[List.mem_cons,List.not_mem_nil,or_false]at hp
   rcases hp with rfl | rfl
   ·exact k1
   ·exact k2
  ·simp only[List.mem_cons,List.not_mem_nil,or_false]at hp
   rcases hp with rfl | rfl
   ·exact Nat.le_refl _
   ·exact Nat.le_succ _
 have hX:∀ S2 w1,PWn e w0 t2 L w1 S2→w1.heap[w.heap.size]?=some (.cells (aj m (k:Nat) d c) 39 (0,0))∧w1.heap[w.heap.size+1]?=some (.cells (au (L.hd k) (L.dd k) (L.dm k)) 80 (0,0)):=fun S2 w1 q=>⟨q.box i0.1 e2 _ (List.mem_cons_self ..),q.box i0.1 e2 _ (List.mem_cons_of_mem _ (List.mem_cons_self ..))⟩
 have hDrop:∀ S2 w1,PWn e w0 t2 L w1 S2→PWn e w0 t L w1 S2:=fun S2 w1 q=>by
  rw[← ht2]at q
  exact q.drop i0.1 i0.2
 refine (yj L.x (fN L.vc) (iF L.vc) S.n k (L.hd k) (L.dd k) (L.dm k) m d c (fX S.mx 16 (S.ds k) m.n) w (fun w1=>PWn e w0 t2 L w1 S) (fun w1=>PWn e w0 t2 L w1 (S.note [dk 7 k 2])) (fun w1=>PWn e w0 t2 L w1 ((S.note [dk 7 k 2]).setD k (cM S.mx 16 (S.ds k) m.n))) cv c0 c1 c2 (by omega) (ay (by omega)) (ay (by omega)) (ay (by omega)) (ay (by omega)) (ay (by omega)) (ay (by omega)) (cz h7) hLay (fun _ _ q b=>q.below b) (fun w1 q=>by rw[hs];exact ry 7 k 2 0 0 q (by omega)) (fun w1 q=>hX _ _ q.out) (fun w1 q=>by
   have:=vS (L.hd k) (L.dd k) (L.dm k) m d c (fX S.mx 16 (S.ds k) m.n) w1 (fun w'=>PWn e w0 t2 L w' ((S.note [dk 7 k 2]).setD k (cM S.mx 16 (S.ds k) m.n))) (fun z=>absurd z (by omega)) (fun _ wx bx=>nI (q.out.below bx) hk (fun g U dv=>nS (L.dd k) (L.dm k) g 16 S.mx (S.PD k) U (S.ds k) m.n wx dv hn.1 hn.2 ht))
   rw[hc]at this
   exact this)).mono ?_
 rintro r w' ⟨rfl,H⟩
 exact⟨rfl,hDrop _ _ H.out⟩
theorem aap {e:Nat→Nat} {w0 w:World} {t:Nat→Thing} {L:Pw} {S:Ws} (k i:Nat) (m:Mv) (d:Option Addr) (c:Nat) (h:PWn e w0 t L w S) (F:Fre e t i) (hk:k<S.n) (h8:m.k=8) (hn:m.n≤9223372036854775807):Calls prog 28 #[ac L.x 0,.agg (aj m (k:Nat) d c)] w fun r w'=>r=.returned (.tuple #[.int .i64 (yv m.n),.int .i64 (-1)])∧Hid (PWn e w0 t L w' (S.setD k { S.ds k with ms:=lj (S.ds k).ms m.n })):=by
 obtain⟨cv,c0,c1,c2⟩:=h.conn hk
 exact aaM L.x (fN L.vc) (iF L.vc) S.n k (L.hd k) (L.dd k) (L.dm k) m d c (yv m.n) w (fun w1=>PWn e w0 t L w1 (S.setD k { S.ds k with ms:=lj (S.ds k).ms m.n })) cv c0 c1 c2 (by omega) (ay (by omega)) (ay (by omega)) (ay (by omega)) (ay (by omega)) (ay (by omega)) (ay (by omega)) (ay (by omega)) (fun w1 b1=>nI (h.below b1) hk (fun g U dv=>sr (L.dd k) (L.dm k) g 16 S.mx (S.PD k) U (S.ds k) m.n w1 dv hn))
theorem zH (X:Nat) (m:Mv) (d:Option Addr) (c:Nat) (E:Int) (hE:(E != 0)=true) (w:World) (hRf:∀ w1,Below w.heap.size w w1→Calls prog 26 #[ac X 0,.agg (aj m m.c d c)] w1 fun r w'=>r=.returned (.int .i64 E)∧Hid (Below w1.heap.size w1 w')):Calls prog 11 #[ac X 0,.agg (aj m m.c d c)] w fun r w'=>r=.returned (.tuple #[.agg cJ,.int .i64 E])∧Below w.heap.size w w':=by
 have s1:=gD w (.cells (aj m m.c d c) 39)
 have s2:=zC w (.cells (aj m m.c d c) 39) (.cells cJ 45)
 have bW:Below w.heap.size w ((w.alloc (.cells (aj m m.c d c) 39)).alloc (.cells cJ 45)):=aC (aC (Below.refl _ w) _) _
 have kp:((w.alloc (.cells (aj m m.c d c) 39)).alloc (.cells cJ 45)).heap[w.heap.size]?=some (.cells (aj m m.c d c) 39 (0,0)):=(Below.heap_alloc _ _ _ (by omega)).trans (aA w _)
 have kr:=aA (w.alloc (.cells (aj m m.c d c) 39)) (.cells cJ 45)
 rw[s1]at kr
 obtain⟨wa,hwa⟩:∃ z,(w.alloc (.cells (aj m m.c d c) 39)).alloc (.cells cJ 45)=z:=⟨_,rfl⟩
 rw[hwa]at bW kp kr s2
 obtain⟨x,hx⟩:∃ z,w.heap.size=z:=⟨_,rfl⟩
 have HB:Hid (Below w.heap.size w wa):=bW
 rw[hx]at kp kr s2
 have p0:wa.cell? ⟨x,0,none⟩=some (.int .i64 m.k):=ae wa (x) 0 _ _ _ kp
 have p1:wa.cell? ⟨x,1,none⟩=some (.int .i64 m.c):=ae wa (x) 1 _ _ _ kp
 have p2:wa.cell? ⟨x,2,none⟩=some (.int .i64 m.s):=ae wa (x) 2 _ _ _ kp
 have p3:wa.cell? ⟨x,3,none⟩=some (.int .i64 m.f):=ae wa (x) 3 _ _ _ kp
 have p4:wa.cell? ⟨x,4,none⟩=some (.int .i64 m.a):=ae wa (x) 4 _ _ _ kp
 have p5:wa.cell? ⟨x,5,none⟩=some (.int .u32 (m.w:Nat)):=ae wa (x) 5 _ _ _ kp
 have p6:wa.cell? ⟨x,6,none⟩=some (.int .i64 m.n):=ae wa (x) 6 _ _ _ kp
 have p7:wa.cell? ⟨x,7,none⟩=some (.bool m.h):=ae wa (x) 7 _ _ _ kp
 have p8:wa.cell? ⟨x,8,none⟩=some (.slice d m.l c):=ae wa (x) 8 _ _ _ kp
 have hRc:=hRf wa bW
 clear hRf
 have HR:Hid (_):=kr
 have H2:Hid (wa.heap.size=x+2):=s2
 have HE:Hid (_=wa):=hwa
 have HS:Hid (w.heap.size=x):=hx
 clear s1 s2 bW kp kr hwa hx
 go_enter func11,ntmps11
 go_upto_region 1 with fail
 rw[HE.out,HS.out]
 go_wp2_with fail
 refine hRc.mono ?_
 rintro r w1 ⟨rfl,H1⟩
 have b1:=H1.out
 clear hRc H1
 have kr:=(b1.block (x+1) (by rw[H2.out];omega)).trans HR.out
 have hth:w1.there (x+1) 0 29:=aZ kr rfl
 have hrg:=World.rangeAt_setCells_same w1 (x+1) 0 cJ.toList hth
 have o1:=bf w1 (x+1) 0 cJ.toList
 have hl:(loadVar 45 ⟨x+1,0,none⟩).run prog (w1.setCells (x+1) 0 cJ.toList)=.ok (.agg cJ) (w1.setCells (x+1) 0 cJ.toList):=run_loadVar_mid (P:=prog) _ (x+1) 0 45 cJ.toList _ hrg underlying45 rfl (by kernel_rfl)
 have HO:Hid (_):=And.intro o1 b1
 have HL:Hid (_):=hl
 have HT:Hid (_):=hth
 clear kr hrg o1 b1 hth hl
 go_upto_region 3 with fail
 apply wp_region_lit
 refine gL rfl (.agg cJ) (by go_simp) ?_
 refine gL rfl (.int .i64 E) (by go_simp) ?_
 refine wpList_store_mid rfl 45 (.tmp 4) (.tmp 15) rfl (x+1) 0 cJ (by kernel_rfl) (by kernel_rfl) HT.out (by kernel_rfl) (by kernel_rfl) ?_
 have HL2:=HL.out
 obtain⟨wz,hwz⟩:∃ z,w1.setCells (x+1) 0 cJ.toList=z:=⟨_,rfl⟩
 rw[hwz]at HL2 ⊢
 have HO2:=HO.out
 rw[hwz]at HO2
 have HO3:Hid (_):=HO2
 clear HO HO2 HL hwz
 refine gL rfl (.int .i64 E) (by go_simp) ?_
 go_wp2_with fail
 refine bodyPost_ret (v:=.tuple #[.agg cJ,.int .i64 E]) ((ej (t:=4) (u:=5) (ty:=45) rfl _ prog wz (by kernel_rfl) HL2).trans (by kernel_rfl)) rfl ?_
 refine⟨rfl,?_⟩
 have hb:=HB.out
 have hb1:=HO3.out.2
 exact HO3.out.1.below (hb.trans (hb1.mono hb.size)) (by simp[HS.out]) (Nat.le_trans hb.size hb1.size)
structure Ws.Law (S:Ws) (m:Mv) (k:Nat):Prop where
 k1:1≤m.k
 k8:m.k≤8
 c:m.c=((k:Nat):Int)
 kn:k<S.n
 sd:m.k≠2→m.k≠8→m.s=1∨m.s=2
 fr:m.k=3∨m.k=4→0≤m.f∧m.f < ((S.bg.length:Nat):Int)
 gb:m.k=4→cK ((S.bg.getD m.f.toNat ep).1:Nat) m.a m.w=0
 n5:m.k=5→0≤m.n∧m.n≤1048576
 n7:m.k=7→0≤m.n
theorem Ws.Law.of {S:Ws} {m:Mv} (h:S.bad m=0):S.up.Law m m.c.toNat:=by
 have o:=Ws.Ok.of h
 have h5:m.k=5→0≤m.n∧m.n≤1048576:=fun q=>by
  have hh:=h
  unfold Ws.bad at hh
  rw[if_neg (by have:=o.mv;omega),if_neg (by have:=o.k1;have:=o.k8;omega),if_neg (by have:=o.c0;have:=o.cn;omega),if_neg (fun z=>(o.sd z.1).elim z.2.1 z.2.2),if_neg (by omega),if_neg (by omega),if_pos q]at hh
  by_cases z:m.n<0∨1048576<m.n
  ·rw[if_pos z]at hh
   omega
  ·omega
 have h7:m.k=7→0≤m.n:=fun q=>by
  have hh:=h
  unfold Ws.bad at hh
  rw[if_neg (by have:=o.mv;omega),if_neg (by have:=o.k1;have:=o.k8;omega),if_neg (by have:=o.c0;have:=o.cn;omega),if_neg (fun z=>(o.sd z.1).elim z.2.1 z.2.2),if_neg (by omega),if_neg (by omega),if_neg (by omega),if_pos q]at hh
  by_cases z:m.n<0∨m.s=1∧0<m.n
  ·rw[if_pos z]at hh
   omega
  ·omega
 exact⟨o.k1,o.k8,by have:=o.c0;omega,by have:=o.c0;have:=o.cn;show m.c.toNat<S.n;omega,fun a b=>o.sd (by unfold fo;simp[a,b]),o.fr,o.gb,h5,h7⟩
structure Ws.Fit (S:Ws) (m:Mv) (k:Nat):Prop where
 fs:S.fs.length≤80000
 bg:S.bg.length<4096
 hms:(S.hs k).ms<4
 hst:1 ≤ (S.hs k).st∧(S.hs k).st≤5
 hsn:(S.hs k).st=4→(S.hs k).sn+1<4294967296
 hL:(S.hs k).L.length<700000
 hb:∀ j,j < (aB (S.PH k) (S.hs k)).1→(aB (S.PH k) (S.hs k)).2 j<256
 hf:(aB (S.PH k) (S.hs k)).1≤27
 dsn:(S.ds k).st=4→(S.ds k).sn+1<4294967296
 dod:(S.ds k).od<4
 dL:(S.ds k).L.length<800000
 dt:(S.ds k).ms.t<9223372036854774000
 db:∀ j,j < (ax (S.PD k) S.mx 16 (S.ds k) (S.fr m).1 (S.fr m).2).f.1→(ax (S.PD k) S.mx 16 (S.ds k) (S.fr m).1 (S.fr m).2).f.2 j<256
 df:(ax (S.PD k) S.mx 16 (S.ds k) (S.fr m).1 (S.fr m).2).f.1≤27
theorem wZ {e:Nat→Nat} {w0 w:World} {t:Nat→Thing} {L:Pw} {S:Ws} (k i:Nat) (m:Mv) (d:Option Addr) (c:Nat) (h:PWn e w0 t L w S) (F:Fre e t i) (ok:m.Ok) (l:S.Law m k) (f:S.Fit m k) (j:Nat) (hj:j<2*i+1) (hq:∀ q,j≠e q) (hr:t j=dA d m.l c m.b):Calls prog 28 #[ac L.x 0,.agg (aj m (k:Nat) d c)] w fun r w'=>r=.returned (.tuple #[.int .i64 (S.act m).e,.int .i64 (S.act m).i])∧Hid (PWn e w0 t L w' (S.act m).S):=by
 have hk:m.c.toNat=k:=by have:=l.c;omega
 have k1:=l.k1
 have k8:=l.k8
 unfold Ws.act
 rw[hk]
 dsimp only
 by_cases q1:m.k=1
 ·rw[if_pos q1]
  by_cases s1:m.s=1
  ·rw[if_pos s1]
   exact yZ k i m d c h F l.kn s1 q1 j hj hq hr
  ·rw[if_neg s1]
   exact yY k i m d c h F l.kn ((l.sd (by omega) (by omega)).resolve_left s1) q1 j hj hq hr
 rw[if_neg q1]
 by_cases q2:m.k=2
 ·rw[if_pos q2]
  exact aan k i m d c h F q2 l.kn (by have:=f.fs;omega) f.bg f.hms f.hst f.hsn f.hL f.hb f.hf
 rw[if_neg q2]
 by_cases q3:m.k=3∨m.k=4
 ·rw[if_pos q3]
  have:=aao k i m d c h F q3 l.c l.kn f.fs f.bg (l.fr q3).1 (l.fr q3).2 ok.w l.gb (by have:=f.hL;omega) f.dsn f.dod f.dL f.dt f.db f.df
  unfold Ws.dlv at this
  exact this
 rw[if_neg q3]
 by_cases q5:m.k=5
 ·rw[if_pos q5]
  by_cases s1:m.s=1
  ·rw[if_pos s1]
   exact zb k i m d c h F l.kn s1 q5 (l.n5 q5) (by have:=f.fs;omega) (by have:=f.hL;omega)
  ·rw[if_neg s1]
   exact za k i m d c h F l.kn ((l.sd (by omega) (by omega)).resolve_left s1) q5 (l.n5 q5) (by have:=f.fs;omega) f.dL
 rw[if_neg q5]
 by_cases q6:m.k=6
 ·rw[if_pos q6]
  by_cases s1:m.s=1
  ·rw[if_pos s1]
   exact ze k i m d c h F l.kn s1 q6 (by have:=f.fs;omega)
  ·rw[if_neg s1]
   exact zc k i m d c h F l.kn ((l.sd (by omega) (by omega)).resolve_left s1) q6 (by have:=f.fs;omega)
 rw[if_neg q6]
 by_cases q7:m.k=7
 ·rw[if_pos q7]
  by_cases s1:m.s=1
  ·rw[if_pos s1]
   exact zg k i m d c h F l.kn s1 q7 l.c (by have:=f.fs;omega)
  ·rw[if_neg s1]
   exact zf k i m d c h F l.kn ((l.sd (by omega) (by omega)).resolve_left s1) q7 l.c (by have:=f.fs;omega) ⟨l.n7 q7,ok.n.2⟩ f.dt
 rw[if_neg q7]
 exact aap k i m d c h F l.kn (by omega) ok.n.2
theorem xP (S:Ws) (m:Mv):(S.act m).S.n=S.n:=by
 unfold Ws.act
 dsimp only
 split
 ·split <;> rfl
 ·split
  ·exact (aR _ _ _ _).1
  ·split
   ·split
    ·unfold Ws.toH
     dsimp only
     split <;> rfl
    ·unfold Ws.toD
     dsimp only
     refine (aR _ _ _ _).1.trans ?_
     unfold Ws.toD2
     split <;> rfl
   ·split
    ·split <;> rfl
    ·split
     ·split <;> rfl
     ·split
      ·split <;> rfl
      ·rfl
theorem uR (e:Nat→Nat) (w0 w:World) (t:Nat→Thing) (L:Pw) (i:Nat) (m:Mv) (d:Option Addr) (c:Nat) (h:PW e w0 w t L) (F:Fre e t i) (ok:m.Ok) (hn:0<L.S.n) (R:Row8 w d m.l c m.b) (hdx:∀ y,d=some y→0<m.l→y.block≠L.x) (hl:m.l≤140737488351232) (hfit:L.S.bad m=0→L.S.up.Fit m m.c.toNat) (hfs:L.S.bad m=0→(L.S.up.act m).S.fs.length≤90000) :
  Calls prog 11 #[ac L.x 0,.agg (aj m m.c d c)] w fun r w'=>
   (L.S.bad m≠0∧r=.returned (.tuple #[.agg cJ,.int .i64 (L.S.bad m)])∧Hid (PW e w0 w' t L∧Below w.heap.size w w')) ∨
   (L.S.bad m=0∧∃ a' c' ah ch ad cd,r=.returned (.tuple #[.agg #[Value.int .i64 m.k,Value.int .i64 m.c,Value.int .i64 m.s,Value.int .i64 m.f,Value.int .i64 m.a,Value.int .u32 (m.w:Nat),Value.int .i64 m.n,Value.bool m.h,Value.slice a' m.l c',Value.int .i64 (L.S.play m).e,Value.int .i64 (L.S.play m).i,Value.int .i64 (((L.S.play m).S.hs m.c.toNat).st:Nat),Value.int .u32 (((L.S.play m).S.hs m.c.toNat).ss:Nat),Value.int .u32 (((L.S.play m).S.hs m.c.toNat).nm:Nat),Value.int .u32 (((L.S.play m).S.hs m.c.toNat).sn:Nat),Value.int .i64 (((L.S.play m).S.hs m.c.toNat).dc:Nat),Value.int .i64 ((L.S.play m).S.hs m.c.toNat).v.lat,Value.bool (aq ((L.S.play m).S.hs m.c.toNat).v),Value.bool (aF ((L.S.play m).S.hs m.c.toNat).v),Value.slice ah ((L.S.play m).S.PH m.c.toNat).i ch,Value.int .i64 (((L.S.play m).S.ds m.c.toNat).st:Nat),Value.int .u32 (((L.S.play m).S.ds m.c.toNat).ss:Nat),Value.int .u32 (((L.S.play m).S.ds m.c.toNat).nm:Nat),Value.int .u32 (((L.S.play m).S.ds m.c.toNat).sn:Nat),Value.int .i64 (((L.S.play m).S.ds m.c.toNat).dc:Nat),Value.int .i64 ((L.S.play m).S.ds m.c.toNat).v.lat,Value.bool (aq ((L.S.play m).S.ds m.c.toNat).v),Value.bool (aF ((L.S.play m).S.ds m.c.toNat).v),Value.slice ad ((L.S.play m).S.PD m.c.toNat).o cd],.int .i64 0])∧Hid (PWn e w0 (xv t i m (L.S.play m).S m.c.toNat a' c' ah ch ad cd) L w' (L.S.play m).S)):=by
 by_cases hb:L.S.bad m=0
 ·have l:=Ws.Law.of hb
  have ho:=Ws.Ok.of hb
  obtain⟨k,hk⟩:∃ k,m.c.toNat=k:=⟨_,rfl⟩
  rw[hk]at l
  have fit:=hfit hb
  rw[hk]at fit
  have hc:m.c=((k:Nat):Int):=l.c
  have hp:L.S.play m=⟨(L.S.up.act m).e,(L.S.up.act m).i,(L.S.up.act m).S.note [oH (L.S.up.act m).S k,oD (L.S.up.act m).S k]⟩:=by
   unfold Ws.play
   rw[if_neg (fun q=>q hb),hk]
   rfl
  have hRf:=rB e w0 w t L m d c h ok hn
  rw[hb,hc]at hRf
  have:=aaA e w0 w t L i k m d c (L.S.up.act m).e (L.S.up.act m).i (L.S.up.act m).S h F l.kn ho.mv R hdx hl (xP _ _) (hfs hb) hRf
   (fun a' c' w1 t1 q F1 hr=>wZ k (i+2) m a' c' q F1 ok l fit (2 * (i+1)+1) (by omega) (F (i+1) (by omega)).1 hr)
  rw[hp,hk,hc]
  refine this.mono ?_
  rintro r w' ⟨a',c',ah,ch,ad,cd,rfl,H⟩
  exact .inr ⟨hb,a',c',ah,ch,ad,cd,rfl,H⟩
 ·refine (zH L.x m d c (L.S.bad m) (by simpa using hb) w (rB e w0 w t L m d c h ok hn)).mono ?_
  rintro r w' ⟨rfl,b⟩
  exact .inl ⟨hb,rfl,h.below b,b⟩
structure Ws.Kn (S:Ws):Prop where
 ph:∀ k,k<S.n→Pok (S.PH k)
 pd:∀ k,k<S.n→Pok (S.PD k)
 ha:∀ k,k<S.n→∀ i,i < (S.PH k).o→(S.hs k).ap i<256
 da:∀ k,k<S.n→∀ i,i < (S.PD k).i→(S.ds k).ap i<256
 mo:∀ k,k<S.n→Mo S.mx 16 (S.ds k)
 fb:∀ f,f ∈ S.bg→f.1≤27∧∀ j,j<f.1→f.2 j<256
theorem PWn.kn {e:Nat→Nat} {w0 w:World} {t:Nat→Thing} {L:Pw} {S:Ws} (h:PWn e w0 t L w S):S.Kn:=by
 obtain⟨t1,L1,h1,hs,hx,he⟩:=h
 subst hs
 refine⟨fun k hk=>?_,fun k hk=>?_,fun k hk=>?_,fun k hk=>?_,fun k hk=>?_,(h1.2.bg h1.1).1.fl.small⟩
 ·obtain⟨B,y⟩:=h1.2.hv h1.1 hk
  exact y.pok
 ·obtain⟨B,y⟩:=h1.2.dv h1.1 hk
  exact y.pok
 ·obtain⟨B,y⟩:=h1.2.hv h1.1 hk
  exact y.apb
 ·obtain⟨B,y⟩:=h1.2.dv h1.1 hk
  exact y.apb
 ·exact Mo.of (h1.2.dv h1.1 hk)
structure Ws.In (S:Ws):Prop where
 ih:∀ k,k<S.n→Ih (S.PH k) (S.hs k)
 iv:∀ k,k<S.n→Iv (S.PD k) (S.ds k)
 hl:∀ k,k<S.n→(S.hs k).L.length≤3*S.mv
 dl:∀ k,k<S.n→(S.ds k).L.length≤3*S.mv∧(S.ds k).ms.t≤6*S.mv
 bg:S.bg.length≤S.mv
 fs:S.fs.length≤8*S.mv
theorem frB {S:Ws} (K:S.Kn) {m:Mv} (h:0≤m.f∧m.f < ((S.bg.length:Nat):Int)):∀ j,j < (S.fr m).1→(S.fr m).2 j<256:=by
 have hlt:m.f.toNat<S.bg.length:=by omega
 obtain⟨f,hf⟩:∃ y,S.bg.getD m.f.toNat ep=y:=⟨_,rfl⟩
 have hg:S.bg[m.f.toNat]?=some f:=by
  rw[← hf,List.getD_eq_getElem?_getD,List.getElem?_eq_getElem hlt]
  rfl
 have hb:=K.fb f (List.mem_of_getElem? hg)
 unfold Ws.fr
 rw[hf]
 split
 ·intro j hj
  exact yl (n:=f.1) hb.2 (fun i _=>pW _ _ i) j hj
 ·exact hb.2
theorem Ws.In.fit {S:Ws} (I:S.In) (K:S.Kn) {m:Mv} (hv:S.mv<4096) {k:Nat} (hk:k<S.n):S.up.Fit m k:=by
 have h1:=I.ih k hk
 have h2:=I.iv k hk
 have h3:=I.hl k hk
 have h4:=I.dl k hk
 have h5:=I.bg
 have h6:=I.fs
 exact⟨by show S.fs.length≤80000;omega,by show S.bg.length<4096;omega,h1.ms,⟨h1.st1,h1.st5⟩,h1.sentY (K.ph k hk),by show (S.hs k).L.length<700000;omega,om _ _ (K.ha k hk),oj _ _,h2.sent (K.pd k hk),h2.od,by show (S.ds k).L.length<800000;omega,by show (S.ds k).ms.t<9223372036854774000;omega,nQ _ _ _ _ (K.da k hk) _ _,mO _ _ _ _ _ _⟩
structure Stp (S T:Ws) (k b c:Nat):Prop where
 n:T.n=S.n
 PH:T.PH=S.PH
 PD:T.PD=S.PD
 mx:T.mx=S.mx
 mv:T.mv=S.mv
 hs:∀ j,j≠k→T.hs j=S.hs j
 ds:∀ j,j≠k→T.ds j=S.ds j
 ih:Ih (S.PH k) (T.hs k)
 iv:Iv (S.PD k) (T.ds k)
 hl:(T.hs k).L.length ≤ (S.hs k).L.length+3
 dl:(T.ds k).L.length ≤ (S.ds k).L.length+3∧(T.ds k).ms.t ≤ (S.ds k).ms.t+6
 bg:T.bg.length≤S.bg.length+b
 fs:T.fs.length≤S.fs.length+c
section
variable {S T:Ws} {k b c:Nat}
theorem tp (ih:Ih (S.PH k) (S.hs k)) (iv:Iv (S.PD k) (S.ds k)) {s:Sh} (h:Ih (S.PH k) s) (hl:s.L.length ≤ (S.hs k).L.length+3):Stp S (S.setH k s) k 0 0:=
 ⟨rfl,rfl,rfl,rfl,rfl,fun j hj=>cP _ _ hj,fun _ _=>rfl,by show Ih (S.PH k) (bQ S.hs k s k);rw[ai];exact h,iv,by show (bQ S.hs k s k).L.length≤_;rw[ai];exact hl,⟨by show (S.ds k).L.length≤_;omega,by show (S.ds k).ms.t≤_;omega⟩,Nat.le_refl _,Nat.le_refl _⟩
theorem tn (ih:Ih (S.PH k) (S.hs k)) (iv:Iv (S.PD k) (S.ds k)) {s:Sd} (h:Iv (S.PD k) s) (g:Gw (S.ds k) s):Stp S (S.setD k s) k 0 0:=
 ⟨rfl,rfl,rfl,rfl,rfl,fun _ _=>rfl,fun j hj=>cP _ _ hj,ih,by show Iv (S.PD k) (bQ S.ds k s k);rw[ai];exact h,by show (S.hs k).L.length≤_;omega,by show (bQ S.ds k s k).L.length≤_∧(bQ S.ds k s k).ms.t≤_;rw[ai];exact g,Nat.le_refl _,Nat.le_refl _⟩
theorem Stp.note (h:Stp S T k b c) (l:List Fa):Stp S (T.note l) k b (c+l.length):=
 ⟨h.n,h.PH,h.PD,h.mx,h.mv,h.hs,h.ds,h.ih,h.iv,h.hl,h.dl,h.bg,by show (T.fs ++ l).length≤_;rw[List.length_append];have:=h.fs;omega⟩
theorem Stp.more (h:Stp S T k b c) {b' c':Nat} (hb:b≤b') (hc:c≤c'):Stp S T k b' c':=
 ⟨h.n,h.PH,h.PD,h.mx,h.mv,h.hs,h.ds,h.ih,h.iv,h.hl,h.dl,by have:=h.bg;omega,by have:=h.fs;omega⟩
theorem Stp.put (h:Stp S T k b c) (k' s:Nat) (f:Fm):Stp S (T.put k' s f) k (b+1) (c+1):=by
 obtain⟨p1,p2,p3,p4,p5,p6,p7,p8⟩:=aR T k' s f
 refine⟨p1.trans h.n,p5.trans h.PH,p4.trans h.PD,p6.trans h.mx,p7.trans h.mv,fun j hj=>by rw[p3];exact h.hs j hj,fun j hj=>by rw[p2];exact h.ds j hj,by rw[p3];exact h.ih,by rw[p2];exact h.iv,by rw[p3];exact h.hl,by rw[p2];exact h.dl,?_,by have:=h.fs;omega⟩
 have:=h.bg
 unfold Ws.put
 split
 ·omega
 ·show (T.bg ++ [f]).length≤_
  rw[List.length_append]
  simp
  omega
theorem mS {α:Type} {p:Prop} [Decidable p] (x:α):(if p then [x] else []).length≤1:=by split <;> simp
theorem kQ (K:S.Kn) (ih:Ih (S.PH k) (S.hs k)) (iv:Iv (S.PD k) (S.ds k)) {m:Mv} (l:S.Law m k):Stp S (S.act m).S k 1 5:=by
 have hk:m.c.toNat=k:=by have:=l.c;omega
 have kn:=l.kn
 have M:=K.mo k kn
 have pH:=K.ph k kn
 have pD:=K.pd k kn
 unfold Ws.act
 rw[hk]
 dsimp only
 split
 ·split
  ·exact (tp ih iv (ih.write _ _ _) (by have:=oG (S.PH k) (S.hs k) m.l m.b m.h;omega)).more (by omega) (by omega)
  ·exact (tn ih iv (iv.write _ _ _) (ue _ _ _)).more (by omega) (by omega)
 ·split
  ·exact ((tp ih iv (ih.send pH) (by have:=sM (S.PH k) (S.hs k);omega)).put k 1 _).more (by omega) (by omega)
  ·split
   ·next q3=>
    have fb:=frB K (l.fr q3)
    split
    ·unfold Ws.toH
     dsimp only
     have h1:=tp ih iv (ih.recv pH _ _ fb) (by have:=qe (S.PH k) (S.hs k) (S.fr m).1 (S.fr m).2;omega)
     split
     ·exact (h1.note _).more (by omega) (by have:=fY k 1 (S.fr m);omega)
     ·exact h1.more (by omega) (by omega)
    ·unfold Ws.toD
     dsimp only
     have h1:Stp S (S.toD1 k (S.fr m)) k 0 2:=by
      unfold Ws.toD1
      exact ((tn ih iv (iv.recv pD M _ _) (wK M _ _)).note _).more (by omega) (by have:=ke k (S.ds k) (ax (S.PD k) S.mx 16 (S.ds k) (S.fr m).1 (S.fr m).2).s;omega)
     have h2:Stp S (S.toD2 k (S.fr m)) k 0 4:=by
      unfold Ws.toD2
      split
      ·exact (h1.note _).more (by omega) (by have:=fY k 2 (S.fr m);omega)
      ·exact h1.more (by omega) (by omega)
     exact (h2.put k 2 _).more (by omega) (by omega)
   ·split
    ·split
     ·exact ((tp ih iv (ih.tick _) (by have:=qj (S.PH k) (S.hs k) m.n;omega)).note _).more (by omega) (by have:=mS (p:=fa m.n=0) (⟨5,k,1,0,m.n.toNat,false,0,ep⟩:Fa);omega)
     ·exact ((tn ih iv (iv.tick _) (wL _)).note _).more (by omega) (by have:=mS (p:=eX (S.ds k) m.n=0) (⟨5,k,2,0,m.n.toNat,false,0,ep⟩:Fa);omega)
    ·split
     ·split
      ·exact ((tp ih iv ih.ack (Nat.le_add_right (S.hs k).L.length 3)).note _).more (by omega) (by have:=mS (p:=eZ (S.hs k)=0) (dk 6 k 1);omega)
      ·exact ((tn ih iv iv.ack yH).note _).more (by omega) (by have:=mS (p:=dK (S.ds k)=0) (dk 6 k 2);omega)
     ·split
      ·split
       ·have h1:=(tp ih iv (Ih.life (S.PH k) (S.hs k)) (Nat.le_add_right (S.hs k).L.length 3)).note [dk 7 k 1]
        exact (show Stp S ((S.note [dk 7 k 1]).setH k (gi (S.hs k))) k 0 (0+1) from h1).more (by omega) (by omega)
       ·have h1:=(tn ih iv (iv.reset (mx:=S.mx) (n:=16) m.n) (ud M m.n)).note [dk 7 k 2]
        exact (show Stp S ((S.note [dk 7 k 2]).setD k (cM S.mx 16 (S.ds k) m.n)) k 0 (0+1) from h1).more (by omega) (by omega)
      ·exact (tn ih iv (iv.arm _) (yI _)).more (by omega) (by omega)
end
theorem Ws.In.play {S:Ws} (I:S.In) (K:S.Kn) {m:Mv}:(S.play m).S.In:=by
 by_cases hb:S.bad m=0
 ·have l:=Ws.Law.of hb
  obtain⟨k,hk⟩:∃ k,m.c.toNat=k:=⟨_,rfl⟩
  rw[hk]at l
  have K':S.up.Kn:=⟨K.ph,K.pd,K.ha,K.da,K.mo,K.fb⟩
  have h:=kQ K' (I.ih k l.kn) (I.iv k l.kn) l
  have h2:=h.note [oH (S.up.act m).S k,oD (S.up.act m).S k]
  have hp:(S.play m).S=(S.up.act m).S.note [oH (S.up.act m).S k,oD (S.up.act m).S k]:=by
   unfold Ws.play
   rw[if_neg (fun q=>q hb),hk]
   rfl
  rw[hp]
  obtain⟨T,hT⟩:∃ T,(S.up.act m).S.note [oH (S.up.act m).S k,oD (S.up.act m).S k]=T:=⟨_,rfl⟩
  rw[hT]at h2 ⊢
  have e1:T.mv=S.mv+1:=h2.mv
  have e2:T.n=S.n:=h2.n
  refine⟨fun j hj=>?_,fun j hj=>?_,fun j hj=>?_,fun j hj=>?_,?_,?_⟩
  ·rw[show T.PH j=S.PH j from congrFun h2.PH j]
   by_cases z:j=k
   ·subst z;exact h2.ih
   ·rw[show T.hs j=S.hs j from h2.hs j z];exact I.ih j (by omega)
  ·rw[show T.PD j=S.PD j from congrFun h2.PD j]
   by_cases z:j=k
   ·subst z;exact h2.iv
   ·rw[show T.ds j=S.ds j from h2.ds j z];exact I.iv j (by omega)
  ·rw[e1]
   by_cases z:j=k
   ·subst z
    have:=I.hl j (by omega)
    have:(T.hs j).L.length ≤ (S.hs j).L.length+3:=h2.hl
    omega
   ·rw[show T.hs j=S.hs j from h2.hs j z]
    have:=I.hl j (by omega)
    omega
  ·rw[e1]
   by_cases z:j=k
   ·subst z
    have:=I.dl j (by omega)
    have q:(T.ds j).L.length ≤ (S.ds j).L.length+3∧(T.ds j).ms.t ≤ (S.ds j).ms.t+6:=h2.dl
    omega
   ·rw[show T.ds j=S.ds j from h2.ds j z]
    have:=I.dl j (by omega)
    omega
  ·rw[e1]
   have:=I.bg
   have q:T.bg.length≤S.bg.length+1:=h2.bg
   omega
  ·rw[e1]
   have:=I.fs
   have q:T.fs.length≤S.fs.length + (5+2):=h2.fs
   omega
 ·have hp:(S.play m).S=S:=by
   unfold Ws.play
   rw[if_pos hb]
  rw[hp]
  exact I
theorem Ws.In.room {S:Ws} (I:S.In) (K:S.Kn) {m:Mv} (hb:S.bad m=0):(S.up.act m).S.fs.length≤90000:=by
 have l:=Ws.Law.of hb
 have o:=Ws.Ok.of hb
 have K':S.up.Kn:=⟨K.ph,K.pd,K.ha,K.da,K.mo,K.fb⟩
 have h:=(kQ K' (I.ih _ l.kn) (I.iv _ l.kn) l).fs
 have q:(S.up.act m).S.fs.length≤S.fs.length+5:=h
 have:=I.fs
 have:=o.mv
 omega
theorem rA (e:Nat→Nat) (w0 w:World) (t:Nat→Thing) (L:Pw) (i:Nat) (m:Mv) (d:Option Addr) (c:Nat) (h:PW e w0 w t L) (F:Fre e t i) (I:L.S.In) (ok:m.Ok) (hn:0<L.S.n) (R:Row8 w d m.l c m.b) (hdx:∀ y,d=some y→0<m.l→y.block≠L.x) (hl:m.l≤140737488351232) :
  Calls prog 11 #[ac L.x 0,.agg (aj m m.c d c)] w fun r w'=>
   (L.S.bad m≠0∧r=.returned (.tuple #[.agg cJ,.int .i64 (L.S.bad m)])∧Hid (PW e w0 w' t L∧Below w.heap.size w w')) ∨
   (L.S.bad m=0∧∃ a' c' ah ch ad cd,r=.returned (.tuple #[.agg #[Value.int .i64 m.k,Value.int .i64 m.c,Value.int .i64 m.s,Value.int .i64 m.f,Value.int .i64 m.a,Value.int .u32 (m.w:Nat),Value.int .i64 m.n,Value.bool m.h,Value.slice a' m.l c',Value.int .i64 (L.S.play m).e,Value.int .i64 (L.S.play m).i,Value.int .i64 (((L.S.play m).S.hs m.c.toNat).st:Nat),Value.int .u32 (((L.S.play m).S.hs m.c.toNat).ss:Nat),Value.int .u32 (((L.S.play m).S.hs m.c.toNat).nm:Nat),Value.int .u32 (((L.S.play m).S.hs m.c.toNat).sn:Nat),Value.int .i64 (((L.S.play m).S.hs m.c.toNat).dc:Nat),Value.int .i64 ((L.S.play m).S.hs m.c.toNat).v.lat,Value.bool (aq ((L.S.play m).S.hs m.c.toNat).v),Value.bool (aF ((L.S.play m).S.hs m.c.toNat).v),Value.slice ah ((L.S.play m).S.PH m.c.toNat).i ch,Value.int .i64 (((L.S.play m).S.ds m.c.toNat).st:Nat),Value.int .u32 (((L.S.play m).S.ds m.c.toNat).ss:Nat),Value.int .u32 (((L.S.play m).S.ds m.c.toNat).nm:Nat),Value.int .u32 (((L.S.play m).S.ds m.c.toNat).sn:Nat),Value.int .i64 (((L.S.play m).S.ds m.c.toNat).dc:Nat),Value.int .i64 ((L.S.play m).S.ds m.c.toNat).v.lat,Value.bool (aq ((L.S.play m).S.ds m.c.toNat).v),Value.bool (aF ((L.S.play m).S.ds m.c.toNat).v),Value.slice ad ((L.S.play m).S.PD m.c.toNat).o cd],.int .i64 0])∧Hid (PWn e w0 (xv t i m (L.S.play m).S m.c.toNat a' c' ah ch ad cd) L w' (L.S.play m).S)):=
 uR e w0 w t L i m d c h F ok hn R hdx hl (fun hb=>I.fit h.n.kn (Ws.Ok.of hb).mv (Ws.Law.of hb).kn) (fun hb=>I.room h.n.kn hb)
end Go.Proofs.YtenilkloffnjlaaGreat
namespace Go.Proofs.YtenilkloffnjlaaGreat
open Tryz
open Go.RowKit Go.Maps
set_option linter.unusedVariables false
theorem uO (S:Ws) (m:Mv):(S.play m).S.n=S.n:=by
 unfold Ws.play
 split
 ·rfl
 ·exact xP _ _
def Ws.actDF (S:Ws) (m:Mv):Sd:=if m.k=1 then (if m.s=1 then S.ds m.c.toNat else eo (S.PD m.c.toNat) (S.ds m.c.toNat) m.l m.b m.h) else if m.k=2 then S.ds m.c.toNat else if m.k=3∨m.k=4 then (if m.s=1 then S.ds m.c.toNat else (ax (S.PD m.c.toNat) S.mx 16 (S.ds m.c.toNat) (S.fr m).1 (S.fr m).2).s) else if m.k=5 then (if m.s=1 then S.ds m.c.toNat else eY (S.PD m.c.toNat) (S.ds m.c.toNat) m.n) else if m.k=6 then (if m.s=1 then S.ds m.c.toNat else cU (S.ds m.c.toNat)) else if m.k=7 then (if m.s=1 then S.ds m.c.toNat else cM S.mx 16 (S.ds m.c.toNat) m.n) else { S.ds m.c.toNat with ms:=lj (S.ds m.c.toNat).ms m.n }
def Ws.actHF (S:Ws) (m:Mv):Sh:=if m.k=1 then (if m.s=1 then eu (S.PH m.c.toNat) (S.hs m.c.toNat) m.l m.b m.h else S.hs m.c.toNat) else if m.k=2 then aG (S.PH m.c.toNat) (S.hs m.c.toNat) else if m.k=3∨m.k=4 then (if m.s=1 then cH (S.PH m.c.toNat) (S.hs m.c.toNat) (S.fr m).1 (S.fr m).2 else S.hs m.c.toNat) else if m.k=5 then (if m.s=1 then fc (S.PH m.c.toNat) (S.hs m.c.toNat) m.n else S.hs m.c.toNat) else if m.k=6 then (if m.s=1 then eM (S.hs m.c.toNat) else S.hs m.c.toNat) else if m.k=7 then (if m.s=1 then gi (S.hs m.c.toNat) else S.hs m.c.toNat) else S.hs m.c.toNat
def Ws.actEF (S:Ws) (m:Mv):Int:=if m.k=1 then (if m.s=1 then gZ (S.PH m.c.toNat) m.l else gW (S.PD m.c.toNat) (S.ds m.c.toNat) m.l) else if m.k=2 then gw (S.hs m.c.toNat) else if m.k=3∨m.k=4 then (if m.s=1 then dF (S.PH m.c.toNat) (S.hs m.c.toNat) (S.fr m).1 (S.fr m).2 else (ax (S.PD m.c.toNat) S.mx 16 (S.ds m.c.toNat) (S.fr m).1 (S.fr m).2).e) else if m.k=5 then (if m.s=1 then fa m.n else eX (S.ds m.c.toNat) m.n) else if m.k=6 then (if m.s=1 then eZ (S.hs m.c.toNat) else dK (S.ds m.c.toNat)) else if m.k=7 then (if m.s=1 then 0 else fX S.mx 16 (S.ds m.c.toNat) m.n) else yv m.n
theorem dB (S:Ws) (k:Nat) (f:Fm):(S.toD2 k f).ds=bQ S.ds k (ax (S.PD k) S.mx 16 (S.ds k) f.1 f.2).s:=by
 unfold Ws.toD2
 split <;> rfl
theorem dC (S:Ws) (k:Nat) (f:Fm):(S.toD2 k f).hs=S.hs:=by
 unfold Ws.toD2
 split <;> rfl
theorem aa5 (S:Ws) (m:Mv):(S.act m).S.ds m.c.toNat=S.actDF m:=by
 unfold Ws.act Ws.actDF
 dsimp only
 by_cases h1:m.k=1
 ·rw[if_pos h1,if_pos h1]
  by_cases hs:m.s=1
  ·rw[if_pos hs,if_pos hs]
   first | rfl | exact ai _ _ _ | (unfold Ws.snd;dsimp only;rw[(aR _ _ _ _).2.1];rfl) | (unfold Ws.toH;dsimp only;split <;> rfl) | (unfold Ws.toD;dsimp only;rw[(aR _ _ _ _).2.1,dB];exact ai _ _ _)
  ·rw[if_neg hs,if_neg hs]
   first | rfl | exact ai _ _ _ | (unfold Ws.snd;dsimp only;rw[(aR _ _ _ _).2.1];rfl) | (unfold Ws.toH;dsimp only;split <;> rfl) | (unfold Ws.toD;dsimp only;rw[(aR _ _ _ _).2.1,dB];exact ai _ _ _)
 rw[if_neg h1,if_neg h1]
 by_cases h2:m.k=2
 ·rw[if_pos h2,if_pos h2]
  first | rfl | exact ai _ _ _ | (unfold Ws.snd;dsimp only;rw[(aR _ _ _ _).2.1];rfl) | (unfold Ws.toH;dsimp only;split <;> rfl) | (unfold Ws.toD;dsimp only;rw[(aR _ _ _ _).2.1,dB];exact ai _ _ _)
 rw[if_neg h2,if_neg h2]
 by_cases h3:m.k=3∨m.k=4
 ·rw[if_pos h3,if_pos h3]
  by_cases hs:m.s=1
  ·rw[if_pos hs,if_pos hs]
   first | rfl | exact ai _ _ _ | (unfold Ws.snd;dsimp only;rw[(aR _ _ _ _).2.1];rfl) | (unfold Ws.toH;dsimp only;split <;> rfl) | (unfold Ws.toD;dsimp only;rw[(aR _ _ _ _).2.1,dB];exact ai _ _ _)
  ·rw[if_neg hs,if_neg hs]
   first | rfl | exact ai _ _ _ | (unfold Ws.snd;dsimp only;rw[(aR _ _ _ _).2.1];rfl) | (unfold Ws.toH;dsimp only;split <;> rfl) | (unfold Ws.toD;dsimp only;rw[(aR _ _ _ _).2.1,dB];exact ai _ _ _)
 rw[if_neg h3,if_neg h3]
 by_cases h5:m.k=5
 ·rw[if_pos h5,if_pos h5]
  by_cases hs:m.s=1
  ·rw[if_pos hs,if_pos hs]
   first | rfl | exact ai _ _ _ | (unfold Ws.snd;dsimp only;rw[(aR _ _ _ _).2.1];rfl) | (unfold Ws.toH;dsimp only;split <;> rfl) | (unfold Ws.toD;dsimp only;rw[(aR _ _ _ _).2.1,dB];exact ai _ _ _)
  ·rw[if_neg hs,if_neg hs]
   first | rfl | exact ai _ _ _ | (unfold Ws.snd;dsimp only;rw[(aR _ _ _ _).2.1];rfl) | (unfold Ws.toH;dsimp only;split <;> rfl) | (unfold Ws.toD;dsimp only;rw[(aR _ _ _ _).2.1,dB];exact ai _ _ _)
 rw[if_neg h5,if_neg h5]
 by_cases h6:m.k=6
 ·rw[if_pos h6,if_pos h6]
  by_cases hs:m.s=1
  ·rw[if_pos hs,if_pos hs]
   first | rfl | exact ai _ _ _ | (unfold Ws.snd;dsimp only;rw[(aR _ _ _ _).2.1];rfl) | (unfold Ws.toH;dsimp only;split <;> rfl) | (unfold Ws.toD;dsimp only;rw[(aR _ _ _ _).2.1,dB];exact ai _ _ _)
  ·rw[if_neg hs,if_neg hs]
   first | rfl | exact ai _ _ _ | (unfold Ws.snd;dsimp only;rw[(aR _ _ _ _).2.1];rfl) | (unfold Ws.toH;dsimp only;split <;> rfl) | (unfold Ws.toD;dsimp only;rw[(aR _ _ _ _).2.1,dB];exact ai _ _ _)
 rw[if_neg h6,if_neg h6]
 by_cases h7:m.k=7
 ·rw[if_pos h7,if_pos h7]
  by_cases hs:m.s=1
  ·rw[if_pos hs,if_pos hs]
   first | rfl | exact ai _ _ _ | (unfold Ws.snd;dsimp only;rw[(aR _ _ _ _).2.1];rfl) | (unfold Ws.toH;dsimp only;split <;> rfl) | (unfold Ws.toD;dsimp only;rw[(aR _ _ _ _).2.1,dB];exact ai _ _ _)
  ·rw[if_neg hs,if_neg hs]
   first | rfl | exact ai _ _ _ | (unfold Ws.snd;dsimp only;rw[(aR _ _ _ _).2.1];rfl) | (unfold Ws.toH;dsimp only;split <;> rfl) | (unfold Ws.toD;dsimp only;rw[(aR _ _ _ _).2.1,dB];exact ai _ _ _)
 rw[if_neg h7,if_neg h7]
 first | rfl | exact ai _ _ _ | (unfold Ws.snd;dsimp only;rw[(aR _ _ _ _).2.1];rfl) | (unfold Ws.toH;dsimp only;split <;> rfl) | (unfold Ws.toD;dsimp only;rw[(aR _ _ _ _).2.1,dB];exact ai _ _ _)
theorem aa7 (S:Ws) (m:Mv):(S.act m).S.hs m.c.toNat=S.actHF m:=by
 unfold Ws.act Ws.actHF
 dsimp only
 by_cases h1:m.k=1
 ·rw[if_pos h1,if_pos h1]
  by_cases hs:m.s=1
  ·rw[if_pos hs,if_pos hs]
   first | rfl | exact ai _ _ _ | (unfold Ws.snd;dsimp only;rw[(aR _ _ _ _).2.2.1];exact ai _ _ _) | (unfold Ws.toH;dsimp only;split <;> exact ai _ _ _) | (unfold Ws.toD;dsimp only;rw[(aR _ _ _ _).2.2.1,dC])
  ·rw[if_neg hs,if_neg hs]
   first | rfl | exact ai _ _ _ | (unfold Ws.snd;dsimp only;rw[(aR _ _ _ _).2.2.1];exact ai _ _ _) | (unfold Ws.toH;dsimp only;split <;> exact ai _ _ _) | (unfold Ws.toD;dsimp only;rw[(aR _ _ _ _).2.2.1,dC])
 rw[if_neg h1,if_neg h1]
 by_cases h2:m.k=2
 ·rw[if_pos h2,if_pos h2]
  first | rfl | exact ai _ _ _ | (unfold Ws.snd;dsimp only;rw[(aR _ _ _ _).2.2.1];exact ai _ _ _) | (unfold Ws.toH;dsimp only;split <;> exact ai _ _ _) | (unfold Ws.toD;dsimp only;rw[(aR _ _ _ _).2.2.1,dC])
 rw[if_neg h2,if_neg h2]
 by_cases h3:m.k=3∨m.k=4
 ·rw[if_pos h3,if_pos h3]
  by_cases hs:m.s=1
  ·rw[if_pos hs,if_pos hs]
   first | rfl | exact ai _ _ _ | (unfold Ws.snd;dsimp only;rw[(aR _ _ _ _).2.2.1];exact ai _ _ _) | (unfold Ws.toH;dsimp only;split <;> exact ai _ _ _) | (unfold Ws.toD;dsimp only;rw[(aR _ _ _ _).2.2.1,dC])
  ·rw[if_neg hs,if_neg hs]
   first | rfl | exact ai _ _ _ | (unfold Ws.snd;dsimp only;rw[(aR _ _ _ _).2.2.1];exact ai _ _ _) | (unfold Ws.toH;dsimp only;split <;> exact ai _ _ _) | (unfold Ws.toD;dsimp only;rw[(aR _ _ _ _).2.2.1,dC])
 rw[if_neg h3,if_neg h3]
 by_cases h5:m.k=5
 ·rw[if_pos h5,if_pos h5]
  by_cases hs:m.s=1
  ·rw[if_pos hs,if_pos hs]
   first | rfl | exact ai _ _ _ | (unfold Ws.snd;dsimp only;rw[(aR _ _ _ _).2.2.1];exact ai _ _ _) | (unfold Ws.toH;dsimp only;split <;> exact ai _ _ _) | (unfold Ws.toD;dsimp only;rw[(aR _ _ _ _).2.2.1,dC])
  ·rw[if_neg hs,if_neg hs]
   first | rfl | exact ai _ _ _ | (unfold Ws.snd;dsimp only;rw[(aR _ _ _ _).2.2.1];exact ai _ _ _) | (unfold Ws.toH;dsimp only;split <;> exact ai _ _ _) | (unfold Ws.toD;dsimp only;rw[(aR _ _ _ _).2.2.1,dC])
 rw[if_neg h5,if_neg h5]
 by_cases h6:m.k=6
 ·rw[if_pos h6,if_pos h6]
  by_cases hs:m.s=1
  ·rw[if_pos hs,if_pos hs]
   first | rfl | exact ai _ _ _ | (unfold Ws.snd;dsimp only;rw[(aR _ _ _ _).2.2.1];exact ai _ _ _) | (unfold Ws.toH;dsimp only;split <;> exact ai _ _ _) | (unfold Ws.toD;dsimp only;rw[(aR _ _ _ _).2.2.1,dC])
  ·rw[if_neg hs,if_neg hs]
   first | rfl | exact ai _ _ _ | (unfold Ws.snd;dsimp only;rw[(aR _ _ _ _).2.2.1];exact ai _ _ _) | (unfold Ws.toH;dsimp only;split <;> exact ai _ _ _) | (unfold Ws.toD;dsimp only;rw[(aR _ _ _ _).2.2.1,dC])
 rw[if_neg h6,if_neg h6]
 by_cases h7:m.k=7
 ·rw[if_pos h7,if_pos h7]
  by_cases hs:m.s=1
  ·rw[if_pos hs,if_pos hs]
   first | rfl | exact ai _ _ _ | (unfold Ws.snd;dsimp only;rw[(aR _ _ _ _).2.2.1];exact ai _ _ _) | (unfold Ws.toH;dsimp only;split <;> exact ai _ _ _) | (unfold Ws.toD;dsimp only;rw[(aR _ _ _ _).2.2.1,dC])
  ·rw[if_neg hs,if_neg hs]
   first | rfl | exact ai _ _ _ | (unfold Ws.snd;dsimp only;rw[(aR _ _ _ _).2.2.1];exact ai _ _ _) | (unfold Ws.toH;dsimp only;split <;> exact ai _ _ _) | (unfold Ws.toD;dsimp only;rw[(aR _ _ _ _).2.2.1,dC])
 rw[if_neg h7,if_neg h7]
 first | rfl | exact ai _ _ _ | (unfold Ws.snd;dsimp only;rw[(aR _ _ _ _).2.2.1];exact ai _ _ _) | (unfold Ws.toH;dsimp only;split <;> exact ai _ _ _) | (unfold Ws.toD;dsimp only;rw[(aR _ _ _ _).2.2.1,dC])
theorem aa6 (S:Ws) (m:Mv):(S.act m).e=S.actEF m:=by
 unfold Ws.act Ws.actEF
 dsimp only
 by_cases h1:m.k=1
 ·rw[if_pos h1,if_pos h1]
  by_cases hs:m.s=1
  ·rw[if_pos hs,if_pos hs]
   try rfl
  ·rw[if_neg hs,if_neg hs]
   try rfl
 rw[if_neg h1,if_neg h1]
 by_cases h2:m.k=2
 ·rw[if_pos h2,if_pos h2]
  try rfl
 rw[if_neg h2,if_neg h2]
 by_cases h3:m.k=3∨m.k=4
 ·rw[if_pos h3,if_pos h3]
  by_cases hs:m.s=1
  ·rw[if_pos hs,if_pos hs]
   try rfl
  ·rw[if_neg hs,if_neg hs]
   try rfl
 rw[if_neg h3,if_neg h3]
 by_cases h5:m.k=5
 ·rw[if_pos h5,if_pos h5]
  by_cases hs:m.s=1
  ·rw[if_pos hs,if_pos hs]
   try rfl
  ·rw[if_neg hs,if_neg hs]
   try rfl
 rw[if_neg h5,if_neg h5]
 by_cases h6:m.k=6
 ·rw[if_pos h6,if_pos h6]
  by_cases hs:m.s=1
  ·rw[if_pos hs,if_pos hs]
   try rfl
  ·rw[if_neg hs,if_neg hs]
   try rfl
 rw[if_neg h6,if_neg h6]
 by_cases h7:m.k=7
 ·rw[if_pos h7,if_pos h7]
  by_cases hs:m.s=1
  ·rw[if_pos hs,if_pos hs]
   try rfl
  ·rw[if_neg hs,if_neg hs]
   try rfl
 rw[if_neg h7,if_neg h7]
 try rfl
theorem fQ (S:Ws) {m:Mv} (hb:S.bad m=0):(S.play m).S.ds m.c.toNat=S.actDF m∧(S.play m).S.hs m.c.toNat=S.actHF m∧(S.play m).e=S.actEF m:=by
 have hp:S.play m=⟨(S.up.act m).e,(S.up.act m).i,(S.up.act m).S.note [oH (S.up.act m).S m.c.toNat,oD (S.up.act m).S m.c.toNat]⟩:=by
  unfold Ws.play
  rw[if_neg (fun q=>q hb)]
  rfl
 rw[hp]
 exact⟨aa5 S.up m,aa7 S.up m,aa6 S.up m⟩
theorem kF {S:Ws} (I:S.In) (K:S.Kn) (m:Mv):(S.play m).S.PH=S.PH∧(S.play m).S.PD=S.PD∧(S.play m).S.mx=S.mx:=by
 by_cases hb:S.bad m=0
 ·have l:=Ws.Law.of hb
  have K':S.up.Kn:=⟨K.ph,K.pd,K.ha,K.da,K.mo,K.fb⟩
  have q:=kQ K' (I.ih _ l.kn) (I.iv _ l.kn) l
  have hp:S.play m=⟨(S.up.act m).e,(S.up.act m).i,(S.up.act m).S.note [oH (S.up.act m).S m.c.toNat,oD (S.up.act m).S m.c.toNat]⟩:=by
   unfold Ws.play
   rw[if_neg (fun q=>q hb)]
   rfl
  rw[hp]
  exact⟨q.PH,q.PD,q.mx⟩
 ·have hp:(S.play m).S=S:=by
   unfold Ws.play
   rw[if_pos hb]
  rw[hp]
  exact⟨rfl,rfl,rfl⟩
section
variable {P:Pm} {mx n:Nat} {s s':Sd}
end
end Go.Proofs.YtenilkloffnjlaaGreat
namespace Go.Proofs.YtenilkloffnjlaaGreat
open Tryz
open Go.RowKit Go.Maps
set_option linter.unusedVariables false
section
variable {P:Pm}
end
end Go.Proofs.YtenilkloffnjlaaGreat
namespace Go.Proofs.YtenilkloffnjlaaGreat
open Tryz
open Go.RowKit Go.Maps
set_option linter.unusedVariables false
section
variable {P:Pm}
end
end Go.Proofs.YtenilkloffnjlaaGreat
namespace Go.Proofs.YtenilkloffnjlaaGreat
open Tryz
open Go.RowKit Go.Maps
set_option linter.unusedVariables false
structure Pq where
 c:Nat
 o:Int
 i:Int
 t:Int
 n:Nat
def Pq.cs (p:Pq):List Value:=[.int .u32 (p.c:Nat),.int .i64 p.o,.int .i64 p.i,.int .i64 p.t,.int .u32 (p.n:Nat)]
def PqRow (w:World) (a:Option Addr) (len:Nat) (P:Nat→Pq):Prop:=∀ i,i<len→∃ q off,a=af q off∧∀ j u,(P i).cs[j]?=some u→w.cell? ⟨q,off+i*5+j,none⟩=some u
theorem PqRow.below {w w':World} {a:Option Addr} {len:Nat} {P:Nat→Pq} (h:PqRow w a len P) (b:Below w.heap.size w w'):PqRow w' a len P:=fun i hi=>by
 obtain⟨q,off,e,c⟩:=h i hi
 exact⟨q,off,e,fun j u hu=>ag (c j u hu) b⟩
def jk:Value→Nat
 | .int _ i=>i.toNat
 | _=>0
def jB (P:Nat→Pq) (l c:Nat):Bool:=(List.range l).any fun i=>(P i).c == c
theorem sx (P:Nat→Pq) (l c:Nat):jB P (l+1) c=(jB P l c || ((P l).c == c)):=by
 unfold jB
 rw[List.range_succ,List.any_append]
 simp
theorem aas (p:Pq) (x c:Nat) (w:World) (cx:w.cell? ⟨x,0,none⟩=some (.int .u32 (c:Nat))):Calls prog 72 #[.agg #[.int .u32 (p.c:Nat),.int .i64 p.o,.int .i64 p.i,.int .i64 p.t,.int .u32 (p.n:Nat)],ac x 0] w fun r w'=>r=.returned (.bool (((p.c:Nat):Int) == ((c:Nat):Int)))∧Below w.heap.size w w':=by
 have kA:=aA w (.cells #[.int .u32 (p.c:Nat),.int .i64 p.o,.int .i64 p.i,.int .i64 p.t,.int .u32 (p.n:Nat)] 83)
 have bA:=aC (Below.refl _ w) (.cells #[.int .u32 (p.c:Nat),.int .i64 p.o,.int .i64 p.i,.int .i64 p.t,.int .u32 (p.n:Nat)] 83)
 have c1:=ag cx bA
 obtain⟨wa,hwa⟩:∃ z,w.alloc (.cells #[.int .u32 (p.c:Nat),.int .i64 p.o,.int .i64 p.i,.int .i64 p.t,.int .u32 (p.n:Nat)] 83)=z:=⟨_,rfl⟩
 rw[hwa]at kA bA c1
 obtain⟨y,hy⟩:∃ z,w.heap.size=z:=⟨_,rfl⟩
 have HB:Hid (Below w.heap.size w wa):=bA
 rw[hy]at kA
 have q0:wa.cell? ⟨y,0,none⟩=some (.int .u32 (p.c:Nat)):=ae wa y 0 _ _ _ kA
 have HE:Hid (_=wa):=hwa
 have HS:Hid (w.heap.size=y):=hy
 clear kA bA hwa hy cx
 go_enter func72,ntmps72
 go_upto_region 1 with fail
 rw[HE.out,HS.out]
 go_wp2_with fail
 go_ret
 exact⟨rfl,HB.out⟩
theorem xi (a:Option Addr) (len cap:Nat) (P:Nat→Pq) (x c:Nat) (w:World) (hr:PqRow w a len P) (cx:w.cell? ⟨x,0,none⟩=some (.int .u32 (c:Nat))) (hlen:len≤1000000):Calls prog 96 #[.slice a len cap,(.func (.func 72) #[] #[ac x 0])] w fun r w'=>∃ k:Int,r=.returned (.int .i64 k)∧Hid ((decide (0≤k))=jB P len c∧Below w.heap.size w w'):=by
 have HW:Hid (PqRow w a len P):=hr
 have HX:Hid (_):=cx
 clear hr cx
 go_enter func96,ntmps96
 go_wp2_with fail
 go_loopw [4,5,8,9,10,11,12,13,14,15,16,17,18] (fun _ _ c0 _ _ _ _ _ _ _ _ _ _ wr=>∃ i:Nat,i≤len∧c0=.int .i64 ((i:Nat):Int)∧Hid (jB P i c=false∧Below w.heap.size w wr)) (fun _ _ c0 _ _ _ _ _ _ _ _ _ _ _=>len-jk c0)
 case atStart=>exact⟨0,by omega,rfl,rfl,Below.refl _ _⟩
 case round=>
  obtain⟨i,hi,rfl,HI⟩:=hrel
  by_cases hlt:i<len
  rotate_left
  ·obtain rfl:i=len:=by omega
   have hlt':¬ ((i:Nat):Int) < ((i:Nat):Int):=by omega
   go_wp2_with fail
   go_ret
   exact⟨-1,rfl,by rw[HI.out.1] <;> rfl,HI.out.2⟩
  have hlt':((i:Nat):Int) < ((len:Nat):Int):=by omega
  have hw1:IntKind.i64.wrap (((i:Nat):Int)+1)=((i+1:Nat):Int):=by rw[IntKind.wrap_i64];omega
  obtain⟨q,off,ea,cc⟩:=(PqRow.below HW.out HI.out.2) i hlt
  subst ea
  obtain⟨p,hP⟩:∃ y,P i=y:=⟨_,rfl⟩
  rw[hP]at cc
  have c0:wr.cell? ⟨q,off+i*5,none⟩=some (.int .u32 (p.c:Nat)):=cc 0 _ rfl
  have c1:wr.cell? ⟨q,off+i*5+1,none⟩=some (.int .i64 p.o):=cc 1 _ rfl
  have c2:wr.cell? ⟨q,off+i*5+2,none⟩=some (.int .i64 p.i):=cc 2 _ rfl
  have c3:wr.cell? ⟨q,off+i*5+3,none⟩=some (.int .i64 p.t):=cc 3 _ rfl
  have c4:wr.cell? ⟨q,off+i*5+4,none⟩=some (.int .u32 (p.n:Nat)):=cc 4 _ rfl
  have hC:=aas p x c wr (ag HX.out HI.out.2)
  have HP:Hid (_):=hP
  clear cc hP
  by_cases hq:p.c=c
  ·rw[show (((p.c:Nat):Int) == ((c:Nat):Int))=true by rw[aY];exact decide_eq_true hq]at hC
   have HQ:Hid (p.c=c):=hq
   clear hq
   go_wp2_with fail
   refine hC.mono ?_
   rintro r w3 ⟨rfl,b3⟩
   go_wp2_with fail
   go_ret
   refine⟨((i:Nat):Int),rfl,?_,HI.out.2.trans (b3.mono HI.out.2.size)⟩
   rw[decide_eq_true (by omega)]
   refine (List.any_eq_true.2 ⟨i,List.mem_range.2 hlt,?_⟩).symm
   rw[HP.out]
   simpa using HQ.out
  ·rw[show (((p.c:Nat):Int) == ((c:Nat):Int))=false by rw[aY];exact decide_eq_false hq]at hC
   have HN:Hid (jB P (i+1) c=false):=by
    show jB P (i+1) c=false
    rw[sx,HI.out.1,HP.out]
    simpa using hq
   clear hq
   go_wp2_with fail
   refine hC.mono ?_
   rintro r w3 ⟨rfl,b3⟩
   have HB3:Hid (_):=b3
   clear b3 hC
   go_wp2_with fail
   exact⟨⟨i+1,by omega,by first | rfl | go_num,HN.out,HI.out.2.trans (HB3.out.mono HI.out.2.size)⟩,by simp only[jk];omega⟩
theorem qq (a:Option Addr) (len cap:Nat) (P:Nat→Pq) (x c:Nat) (w:World) (hr:PqRow w a len P) (cx:w.cell? ⟨x,0,none⟩=some (.int .u32 (c:Nat))) (hlen:len≤1000000):Calls prog 73 #[.slice a len cap,(.func (.func 72) #[] #[ac x 0])] w fun r w'=>r=.returned (.bool (jB P len c))∧Hid (Below w.heap.size w w'):=by
 have hI:=xi a len cap P x c w hr cx hlen
 obtain⟨B,hB⟩:∃ y,jB P len c=y:=⟨_,rfl⟩
 rw[hB]at hI ⊢
 clear hr cx hB
 go_enter func73,ntmps73
 go_wp2_with fail
 refine hI.mono ?_
 rintro r w2 ⟨k,rfl,H⟩
 go_wp2_with fail
 go_ret
 exact⟨by rw[← H.out.1] <;> rfl,H.out.2⟩
def iw (P:Nat→Pq) (l:Nat):Bool:=(List.range l).any fun i=>jB P i (P i).c
theorem sf (P:Nat→Pq) (l:Nat):iw P (l+1)=(iw P l || jB P l (P l).c):=by
 unfold iw
 rw[List.range_succ,List.any_append]
 simp
theorem lW (a:Option Addr) (len cap:Nat) (P:Nat→Pq) (w:World) (hr:PqRow w a len P) (hlen:len≤1000000) (hcap:len≤cap):Calls prog 40 #[.slice a len cap] w fun r w'=>r=.returned (.bool (iw P len))∧Hid (Below w.heap.size w w'):=by
 have HW:Hid (PqRow w a len P):=hr
 clear hr
 go_enter func40,ntmps40
 go_wp2_with fail
 go_loopw [2,3,4,5,8,9,10,11,12,13,14,15,16,17,18,19] (fun _ _ _ _ c0 _ _ _ _ _ _ _ _ _ _ _ wr=>∃ i:Nat,i≤len∧c0=.int .i64 ((i:Nat):Int)∧Hid (iw P i=false∧Below w.heap.size w wr)) (fun _ _ _ _ c0 _ _ _ _ _ _ _ _ _ _ _ _=>len-jk c0)
 case atStart=>exact⟨0,by omega,rfl,rfl,Below.refl _ _⟩
 case round=>
  obtain⟨i,hi,rfl,HI⟩:=hrel
  by_cases hlt:i<len
  rotate_left
  ·obtain rfl:i=len:=by omega
   have hlt':¬ ((i:Nat):Int) < ((i:Nat):Int):=by omega
   go_wp2_with fail
   go_ret
   exact⟨by rw[HI.out.1] <;> rfl,HI.out.2⟩
  have hlt':((i:Nat):Int) < ((len:Nat):Int):=by omega
  have hic:((i:Nat):Int) ≤ ((cap:Nat):Int):=by omega
  have hR:=PqRow.below HW.out HI.out.2
  obtain⟨q,off,ea,cc⟩:=hR i hlt
  subst ea
  obtain⟨p,hP⟩:∃ y,P i=y:=⟨_,rfl⟩
  rw[hP]at cc
  have c0:wr.cell? ⟨q,off+i*5,none⟩=some (.int .u32 (p.c:Nat)):=cc 0 _ rfl
  have c1:wr.cell? ⟨q,off+i*5+1,none⟩=some (.int .i64 p.o):=cc 1 _ rfl
  have c2:wr.cell? ⟨q,off+i*5+2,none⟩=some (.int .i64 p.i):=cc 2 _ rfl
  have c3:wr.cell? ⟨q,off+i*5+3,none⟩=some (.int .i64 p.t):=cc 3 _ rfl
  have c4:wr.cell? ⟨q,off+i*5+4,none⟩=some (.int .u32 (p.n:Nat)):=cc 4 _ rfl
  have bA:=aC (Below.refl _ wr) (.cells #[.int .u32 (p.c:Nat),.int .i64 p.o,.int .i64 p.i,.int .i64 p.t,.int .u32 (p.n:Nat)] 83)
  have kA:=aA wr (.cells #[.int .u32 (p.c:Nat),.int .i64 p.o,.int .i64 p.i,.int .i64 p.t,.int .u32 (p.n:Nat)] 83)
  have hC:=qq (af q off) i cap P wr.heap.size p.c (wr.alloc (.cells #[.int .u32 (p.c:Nat),.int .i64 p.o,.int .i64 p.i,.int .i64 p.t,.int .u32 (p.n:Nat)] 83)) (fun j hj=>(hR.below bA) j (by omega)) (ae _ _ 0 _ _ _ kA) (by omega)
  have HP:Hid (_):=hP
  have HB:Hid (_):=HI.out.2.trans (bA.mono HI.out.2.size)
  clear cc hP bA kA hR
  cases hq:jB P i p.c with
  | true=>
   rw[hq]at hC
   have HN:Hid (iw P len=true):=List.any_eq_true.2 ⟨i,List.mem_range.2 hlt,by rw[HP.out];exact hq⟩
   clear hq
   go_wp2_with fail
   refine hC.mono ?_
   rintro r w3 ⟨rfl,H3⟩
   clear hC
   go_wp2_with fail
   go_ret
   exact⟨by rw[HN.out] <;> rfl,HB.out.trans (H3.out.mono HB.out.size)⟩
  | false=>
   rw[hq]at hC
   have HN:Hid (iw P (i+1)=false):=by
    show iw P (i+1)=false
    rw[sf,HI.out.1,HP.out,hq]
    rfl
   clear hq
   go_wp2_with fail
   refine hC.mono ?_
   rintro r w3 ⟨rfl,H3⟩
   clear hC
   go_wp2_with fail
   go_roundw
   case rel=>exact⟨i+1,by omega,by first | rfl | go_num,HN.out,HB.out.trans (H3.out.mono HB.out.size)⟩
   case measure=>simp only[jk];omega
def fZ (n:Nat) (P:Nat→Pq):List Value:=(List.range n).flatMap fun i=>(P i).cs
theorem dy (n:Nat) (P:Nat→Pq):fZ (n+1) P=fZ n P ++ (P n).cs:=by
 unfold fZ
 rw[List.range_succ,List.flatMap_append]
 simp
theorem gc (n:Nat) (P:Nat→Pq):(fZ n P).length=n*5:=by
 induction n with
 | zero=>rfl
 | succ n ih=>
  rw[dy,List.length_append,ih]
  have:(P n).cs.length=5:=rfl
  omega
theorem mP (n:Nat) (P:Nat→Pq):∀ u ∈ fZ n P,u.oneCell'=true:=by
 intro u hu
 unfold fZ at hu
 obtain⟨i,_,hi⟩:=List.mem_flatMap.1 hu
 simp[Pq.cs]at hi
 rcases hi with rfl | rfl | rfl | rfl | rfl <;> rfl
theorem ri (n:Nat) (P:Nat→Pq) (i j:Nat) (hi:i<n) (hj:j<5):(fZ n P)[i*5+j]?=(P i).cs[j]?:=by
 induction n with
 | zero=>omega
 | succ n ih=>
  rw[dy]
  by_cases h:i<n
  ·rw[List.getElem?_append_left (by rw[gc];omega)]
   exact ih h
  ·obtain rfl:i=n:=by omega
   rw[List.getElem?_append_right (by rw[gc];omega),gc]
   congr 1
   omega
theorem wH (n k:Nat) (P Q:Nat→Pq):fZ (n+k) (fun i=>if i<n then P i else Q (i-n))=fZ n P ++ fZ k Q:=by
 induction k with
 | zero=>
  have e:∀ m,m≤n→fZ m (fun i=>if i<n then P i else Q (i-n))=fZ m P:=by
   intro m hm
   induction m with
   | zero=>rfl
   | succ m ih=>
    rw[dy,dy,ih (by omega),if_pos (by omega)]
  have:fZ 0 Q=[]:=rfl
  rw[this,List.append_nil]
  exact e n (Nat.le_refl _)
 | succ k ih=>
  rw[show n + (k+1)=(n+k)+1 by omega,dy,ih,dy,List.append_assoc,if_neg (by omega),show n+k-n=k by omega]
theorem PqRow.src {w:World} {q off n:Nat} {P:Nat→Pq} (h:PqRow w (af q off) n P):∀ j u,(fZ n P)[j]?=some u→w.cell? ((⟨q,off,none⟩:Addr).add j)=some u:=fun j u hu=>by
 have hj:j<n*5:=by
  have:=(List.getElem?_eq_some_iff.1 hu).1
  rw[gc]at this
  exact this
 have e:(Addr.add ⟨q,off,none⟩ j)=⟨q,off+j,none⟩:=Addr.add_mid q off j
 obtain⟨q',off',e1,c⟩:=h (j / 5) (by omega)
 injection e1 with e1
 injection e1 with e2 e3
 subst e2 e3
 have g:=ri n P (j / 5) (j % 5) (by omega) (by omega)
 rw[show j / 5*5+j % 5=j by omega,hu]at g
 have:=c (j % 5) u g.symm
 rw[show off+j / 5*5+j % 5=off+j by omega]at this
 rw[e]
 exact this
theorem PqRow.ofOwn {w:World} {B n c:Nat} {a:Option Addr} {P:Nat→Pq} (h:w.ownsRow B 83 5 (.slice a n c) n (fZ n P)):PqRow w a n P:=fun i hi=>by
 obtain⟨g,rfl,_⟩:=ic h (by omega)
 refine⟨g,0,rfl,fun j u hu=>?_⟩
 have hj:j<5:=by
  have:=(List.getElem?_eq_some_iff.1 hu).1
  exact this
 have:=ib h (i*5+j) u (by rw[ri n P i j hi hj];exact hu)
 rw[Nat.zero_add]
 exact this
theorem zn (N:Nat) (h0:0<N) (hN:N≤1000000) (w:World):Calls prog 70 #[.slice none 0 0,.int .i64 (N:Nat)] w fun r w'=>∃ a c,r=.returned (.slice a 0 c)∧Hid (w'.ownsRow w.heap.size 83 5 (.slice a 0 c) 0 []∧Below w.heap.size w w'):=by
 obtain⟨i0,hI,hz0,hz1,hz2⟩:=info_parts dH
 have hold:(Builtin.firstCells i0.size 0 (.slice none 0 0)).run prog w.drew=.ok ([]:List Value).toArray w.drew:=run_firstCells_none _ _ _ _ _
 have hnc:Builtin.nextslicecap N 0*40≤281474976710656:=by
  unfold Builtin.nextslicecap
  rw[if_pos (by omega)]
  omega
 have hrz:∀ ty,(Builtin.append_ #[27,3] ty #[.slice none 0 0,.int .i64 (N:Nat)]).run prog w=_:=fun ty=>Lib.run_append_grow_zeros (P:=prog) w 27 3 ty 83 i0 _ .i64 .i64 underlying27 underlying3 hI hz0 none 0 0 [] hold N h0 (by rw[hz1];omega) (by omega) (by omega) (by rw[hz2];omega) (by rw[hz2,Nat.zero_add];exact hnc)
 have hGn:N≤grownCap w N 0 83:=grownCap_ge w _ _ _
 have hGm:grownCap w N 0 83≤maxLen:=grownCap_le_maxLen w N 0 _ (by unfold maxLen;omega)
 obtain⟨G,hG⟩:∃ G,grownCap w N 0 83=G:=⟨_,rfl⟩
 simp only[Nat.zero_add]at hrz
 rw[hG]at hrz hGn hGm
 have hb:Below w.heap.size w w.drew:=Below.drew (Below.refl _ _)
 have hs2:(([]:List Value).toArray ++ Builtin.zeroCells (Value.agg #[.int .u32 0,.int .i64 0,.int .i64 0,.int .i64 0,.int .u32 0]).cells N ++ Builtin.zeroCells (Value.agg #[.int .u32 0,.int .i64 0,.int .i64 0,.int .i64 0,.int .u32 0]).cells (G-N)).size=G*5:=by
  simp[Builtin.zeroCells,Value.cells]
  omega
 obtain⟨ZZ,hZZ⟩:∃ z,([]:List Value).toArray ++ Builtin.zeroCells (Value.agg #[.int .u32 0,.int .i64 0,.int .i64 0,.int .i64 0,.int .u32 0]).cells N ++ Builtin.zeroCells (Value.agg #[.int .u32 0,.int .i64 0,.int .i64 0,.int .i64 0,.int .u32 0]).cells (G-N)=z:=⟨_,rfl⟩
 rw[hZZ]at hrz hs2
 have hG63:G≤9223372036854775807:=by unfold maxLen at hGm;omega
 have ho:(w.drew.alloc (.cells ZZ 83)).ownsRow w.heap.size 83 5 (.slice (af w.drew.heap.size 0) 0 G) 0 []:=World.ownsRow_made w.drew ZZ G (Nat.le_refl _) hGm hs2
 have HF:Hid (_):=And.intro ho (aC hb (.cells ZZ 83))
 have h1:¬ (((N:Nat):Int)<0):=by omega
 have h2:((N:Nat):Int) > 0:=by omega
 clear hold hG hb hs2 hZZ ho hGm
 go_enter func70,ntmps70
 go_wp2_with (at_builtin;refine Lib.wpList_append_run _ rfl _ _ _ _ rfl _ _ rfl rfl _ _ (hrz _) ?_)
 go_ret
 exact⟨_,_,rfl,HF.out⟩
theorem rr (q off n c:Nat) (P:Nat→Pq) (w:World) (h:PqRow w (af q off) n P) (hn:n≤1000000):Calls prog 41 #[.slice (af q off) n c] w fun r w'=>∃ a' c',r=.returned (.slice a' n c')∧Hid (w'.ownsRow w.heap.size 83 5 (.slice a' n c') n (fZ n P)∧Below w.heap.size w w'):=by
 have hnn:∀ w,(binOp .eql 27 (.slice (af q off) n c) (.slice none 0 0)).run prog w=.ok (.bool false) w:=fun _=>rfl
 obtain⟨i0,hI,hz0,hz1,hz2⟩:=info_parts dH
 have bA:=aC (Below.refl _ w) (.cells #[] 83)
 have oA:(w.alloc (.cells #[] 83)).ownsRow w.heap.size 83 5 (.slice (af w.heap.size 0) 0 0) 0 []:=World.ownsRow_made w #[] 0 (Nat.le_refl _) (Nat.zero_le _) rfl
 have sA:=(h.below bA).src
 have HB:Hid (_):=bA
 have zA:w.heap.size ≤ (w.alloc (.cells #[] 83)).heap.size:=bA.size
 clear h bA
 go_enter func41,ntmps41
 go_wp2_with (at_builtin;refine wpList_append_own_at _ rfl _ _ 27 rfl w.heap.size 83 i0 (.agg #[.int .u32 0,.int .i64 0,.int .i64 0,.int .i64 0,.int .u32 0]) 5 40 underlying27 hI hz0 hz1 hz2 rfl (by decide) (.slice (af w.heap.size 0) 0 0) 0 [] rfl oA ⟨q,off,none⟩ n c (fZ n P) rfl (gc _ _) sA (mP _ _) (by unfold maxLen;omega) (by omega) zA ?_)
 intro v' w' o' g' _ _
 obtain⟨a',c',rfl⟩:=bk o'
 have HF:Hid (_):=And.intro o' (HB.out.grown g' HB.out.size (fun k hk=>(oA.lt k hk).1))
 clear o' g' oA sA zA hnn
 go_wp2_with fail
 go_ret
 exact⟨_,_,rfl,HF.out.1,HF.out.2⟩
theorem uI (P Q:Nat→Pq) (s q0 o0 n0 c0 q1 o1 n1 c1:Nat) (w:World) (hs:w.heap[s]?=some (.cells #[.slice (af q0 o0) n0 c0,.slice (af q1 o1) n1 c1] 27 (0,0))) (h0:PqRow w (af q0 o0) n0 P) (h1:PqRow w (af q1 o1) n1 Q) (l0:0<n0) (b0:n0≤1000) (b1:n1≤1000):Calls prog 38 #[.slice (af s 0) 2 2] w fun r w'=>∃ a c,r=.returned (.slice a (n0+n1) c)∧Hid (PqRow w' a (n0+n1) (fun i=>if i<n0 then P i else Q (i-n0))∧n0+n1≤c∧Below w.heap.size w w'):=by
 obtain⟨i0,hI,hz0,hz1,hz2⟩:=info_parts dH
 have e0:=ae w s 0 _ _ _ hs
 have e1:=ae w s 1 _ _ _ hs
 have hG:=zn (n0+n1) (by omega) (by omega) w
 rw[Int.natCast_add]at hG
 have ls:=(Array.getElem?_eq_some_iff.1 hs).1
 have H0:Hid (_):=ls
 have Hs:Hid (_):=hs
 have Hp:Hid (_):=h0
 have Hq:Hid (_):=h1
 have f0:¬ (((n0:Nat):Int)<0):=by omega
 have f1:¬ (((n0:Nat):Int) + ((n1:Nat):Int)<0):=by omega
 clear hs h0 h1 ls
 go_enter func38,ntmps38
 go_wp2_with fail
 refine wp_loop_rounds 3 ?_
 rw[rounds_succ]
 go_wp2_with fail
 rw[rounds_succ]
 go_wp2_with fail
 rw[rounds_succ]
 go_wp2_with fail
 refine hG.mono ?_
 rintro r w1 ⟨a,c,rfl,H1⟩
 have oA:=H1.out.1
 have bb1:=H1.out.2
 have d0:=ae w1 s 0 _ _ _ ((bb1.block s H0.out).trans Hs.out)
 have d1:=ae w1 s 1 _ _ _ ((bb1.block s H0.out).trans Hs.out)
 have sA:=(PqRow.below Hp.out bb1).src
 have zA:w.heap.size≤w1.heap.size:=bb1.size
 have HB1:Hid (_):=bb1
 clear bb1 hG e0 e1
 go_wp2_with fail
 refine wp_loop_rounds 3 ?_
 rw[rounds_succ]
 go_wp2_with (at_builtin;refine wpList_append_own_at _ rfl _ _ 27 rfl w.heap.size 83 i0 (.agg #[.int .u32 0,.int .i64 0,.int .i64 0,.int .i64 0,.int .u32 0]) 5 40 underlying27 hI hz0 hz1 hz2 rfl (by decide) (.slice a 0 c) 0 [] rfl oA ⟨q0,o0,none⟩ n0 c0 (fZ n0 P) rfl (gc _ _) sA (mP _ _) (by unfold maxLen;omega) (by omega) zA ?_)
 intro v2 w2 o2 g2 _ _
 obtain⟨a2,c2,rfl⟩:=bk o2
 have bb2:=HB1.out.grown g2 zA (fun k hk=>(oA.lt k hk).1)
 have k0:=ae w2 s 0 _ _ _ ((bb2.block s H0.out).trans Hs.out)
 have k1:=ae w2 s 1 _ _ _ ((bb2.block s H0.out).trans Hs.out)
 have sB:=(PqRow.below Hq.out bb2).src
 have zB:w.heap.size≤w2.heap.size:=bb2.size
 have HB2:Hid (_):=bb2
 clear oA sA zA d0 d1 bb2 g2
 go_wp2_with fail
 rw[rounds_succ]
 go_wp2_with (at_builtin;refine wpList_append_own_at _ rfl _ _ 27 rfl w.heap.size 83 i0 (.agg #[.int .u32 0,.int .i64 0,.int .i64 0,.int .i64 0,.int .u32 0]) 5 40 underlying27 hI hz0 hz1 hz2 rfl (by decide) (.slice a2 n0 c2) n0 (fZ n0 P) rfl o2 ⟨q1,o1,none⟩ n1 c1 (fZ n1 Q) rfl (gc _ _) sB (mP _ _) (by unfold maxLen;omega) (by omega) zB ?_)
 intro v3 w3 o3 g3 _ _
 obtain⟨a3,c3,rfl⟩:=bk o3
 have HF:Hid (_):=And.intro o3 (HB2.out.grown g3 zB (fun k hk=>(o2.lt k hk).1))
 have m1:=ae w3 s 1 _ _ _ ((HF.out.2.block s H0.out).trans Hs.out)
 clear o2 o3 sB zB k0 k1 g3
 go_wp2_with fail
 rw[rounds_succ]
 go_wp2_with fail
 go_ret
 have h3:=HF.out.1
 rw[← wH]at h3
 refine⟨_,_,rfl,PqRow.ofOwn h3,?_,HF.out.2⟩
 rcases h3.2 with ⟨e,e2⟩ | ⟨g,cap,cur,e,_,_,hle,_⟩
 ·omega
 ·injection e with _ _ e3
  omega
def Pq.law (p:Pq):Prop:=sY p.c p.o p.i p.t p.n
instance (p:Pq):Decidable p.law:=inferInstanceAs (Decidable (sY p.c p.o p.i p.t p.n))
def nE (P:Nat→Pq) (n:Nat):Bool:=(List.range n).all fun i=>decide (P i).law
theorem rS (P:Nat→Pq) (n:Nat):nE P (n+1)=(nE P n && decide (P n).law):=by
 unfold nE
 rw[List.range_succ,List.all_append]
 simp
def ckE (n0 n1 mx:Nat) (P Q:Nat→Pq):Int:=if n0<1∨8<n0∨n1≠n0∨mx<1 then 2 else if nE (fun i=>if i<n0 then P i else Q (i-n0)) (n0+n1)=false then 90 else if (iw P n0 || iw Q n1)=true then 160 else 0
theorem xe (P Q:Nat→Pq) (a0 a1:Option Addr) (n0 c0 n1 c1 mx:Nat) (w:World) (h0:PqRow w a0 n0 P) (h1:PqRow w a1 n1 Q) (u0:n0≤c0) (u1:n1≤c1) (b0:n0≤1000000) (b1:n1≤1000000):Calls prog 18 #[.agg #[.slice a0 n0 c0,.slice a1 n1 c1,.int .u32 (mx:Nat)]] w fun r w'=>r=.returned (.int .i64 (ckE n0 n1 mx P Q))∧Hid (Below w.heap.size w w'):=by
 have kA:=aA w (.cells #[.slice a0 n0 c0,.slice a1 n1 c1,.int .u32 (mx:Nat)] 30)
 have bA:=aC (Below.refl _ w) (.cells #[.slice a0 n0 c0,.slice a1 n1 c1,.int .u32 (mx:Nat)] 30)
 obtain⟨wa,hwa⟩:∃ y,w.alloc (.cells #[.slice a0 n0 c0,.slice a1 n1 c1,.int .u32 (mx:Nat)] 30)=y:=⟨_,rfl⟩
 rw[hwa]at kA bA
 have r0:=h0.below bA
 have r1:=h1.below bA
 obtain⟨x,hx⟩:∃ y,w.heap.size=y:=⟨_,rfl⟩
 have HB:Hid (Below w.heap.size w wa):=bA
 rw[hx]at kA
 have y0:wa.cell? ⟨x,0,none⟩=some (.slice a0 n0 c0):=ae wa x 0 _ _ _ kA
 have y1:wa.cell? ⟨x,1,none⟩=some (.slice a1 n1 c1):=ae wa x 1 _ _ _ kA
 have y2:wa.cell? ⟨x,2,none⟩=some (.int .u32 (mx:Nat)):=ae wa x 2 _ _ _ kA
 have HK:Hid (_):=kA
 have HR:Hid (_):=And.intro r0 r1
 have HE:Hid (_=wa):=hwa
 have HS:Hid (w.heap.size=x):=hx
 clear kA bA hwa hx r0 r1 h0 h1
 unfold ckE
 by_cases g1:n0<1
 ·rw[if_pos (.inl g1)]
  have g1':((n0:Nat):Int)<1:=by omega
  go_enter func18,ntmps18
  go_upto_region 1 with fail
  rw[HE.out,HS.out]
  go_wp2_with fail
  go_ret
  exact⟨rfl,HB.out⟩
 by_cases g2:8<n0
 ·rw[if_pos (.inr (.inl g2))]
  have g1':¬ (((n0:Nat):Int)<1):=by omega
  have g2':((n0:Nat):Int) > 8:=by omega
  go_enter func18,ntmps18
  go_upto_region 1 with fail
  rw[HE.out,HS.out]
  go_wp2_with fail
  go_ret
  exact⟨rfl,HB.out⟩
 have g1':¬ (((n0:Nat):Int)<1):=by omega
 have g2':¬ (((n0:Nat):Int) > 8):=by omega
 by_cases g3:n1=n0
 rotate_left
 ·rw[if_pos (.inr (.inr (.inl g3)))]
  have g3':(((n1:Nat):Int) != ((n0:Nat):Int))=true:=by simp;omega
  go_enter func18,ntmps18
  go_upto_region 1 with fail
  rw[HE.out,HS.out]
  go_wp2_with fail
  go_ret
  exact⟨rfl,HB.out⟩
 subst g3
 have g3':(((n1:Nat):Int) != ((n1:Nat):Int))=false:=by simp
 by_cases g4:mx<1
 ·rw[if_pos (.inr (.inr (.inr g4)))]
  have g4':((mx:Nat):Int)<1:=by omega
  go_enter func18,ntmps18
  go_upto_region 1 with fail
  rw[HE.out,HS.out]
  go_wp2_with fail
  go_ret
  exact⟨rfl,HB.out⟩
 have g4':¬ (((mx:Nat):Int)<1):=by omega
 rw[if_neg (by omega:¬ (n1<1∨8<n1∨n1≠n1∨mx<1))]
 obtain⟨q0,o0,ea0,_⟩:=HR.out.1 0 (by omega)
 obtain⟨q1,o1,ea1,_⟩:=HR.out.2 0 (by omega)
 subst ea0 ea1
 have bB:=aC (Below.refl _ wa) (.cells #[.slice (af q0 o0) n1 c0,.slice (af q1 o1) n1 c1] 27)
 have kB:=aA wa (.cells #[.slice (af q0 o0) n1 c0,.slice (af q1 o1) n1 c1] 27)
 have hCc:=uI P Q wa.heap.size q0 o0 n1 c0 q1 o1 n1 c1 (wa.alloc (.cells #[.slice (af q0 o0) n1 c0,.slice (af q1 o1) n1 c1] 27)) kB (PqRow.below HR.out.1 bB) (PqRow.below HR.out.2 bB) (by omega) (by omega) (by omega)
 have HBB:Hid (_):=bB
 clear bB kB g1 g2 g4
 obtain⟨R,hR⟩:∃ z,(if nE (fun i=>if i<n1 then P i else Q (i-n1)) (n1+n1)=false then (90:Int) else if (iw P n1 || iw Q n1)=true then 160 else 0)=z:=⟨_,rfl⟩
 have HRR:Hid (_):=hR
 rw[hR]
 clear hR
 obtain⟨C,hC⟩:∃ C:Nat→Pq,(fun i=>if i<n1 then P i else Q (i-n1))=C:=⟨_,rfl⟩
 rw[hC]at hCc
 have HC:Hid (_):=hC
 clear hC
 go_enter func18,ntmps18
 go_upto_region 1 with fail
 rw[HE.out,HS.out]
 go_wp2_with fail
 refine hCc.mono ?_
 rintro r w1 ⟨a,c,rfl,H1⟩
 clear hCc y0 y1 y2
 have hb1:Below wa.heap.size wa w1:=HBB.out.trans (H1.out.2.2.mono HBB.out.size)
 have HB1:Hid (_):=hb1
 clear hb1
 go_wp2_with fail
 go_loopw [2,4,5,37,38,39,40,41,42,43,44,45,46] (fun _ _ _ v0 _ _ _ _ _ _ _ _ _ wr=>∃ i:Nat,i≤n1+n1∧v0=.int .i64 ((i:Nat):Int)∧Hid (nE C i=true∧Below w1.heap.size w1 wr)) (fun _ _ _ v0 _ _ _ _ _ _ _ _ _ _=>n1+n1-jk v0)
 case atStart=>exact⟨0,by omega,rfl,rfl,Below.refl _ _⟩
 case round=>
  obtain⟨i,hi,rfl,HI⟩:=hrel
  by_cases hlt:i<n1+n1
  rotate_left
  ·obtain rfl:i=n1+n1:=by omega
   have hlt':¬ (((n1+n1:Nat):Nat):Int) < (((n1+n1:Nat):Nat):Int):=by omega
   have hbr:Below wa.heap.size wa wr:=HB1.out.trans (HI.out.2.mono HB1.out.size)
   have kr:=(hbr.block x (Array.getElem?_eq_some_iff.1 HK.out).1).trans HK.out
   have y0:wr.cell? ⟨x,0,none⟩=some (.slice (af q0 o0) n1 c0):=ae wr x 0 _ _ _ kr
   have y1:wr.cell? ⟨x,1,none⟩=some (.slice (af q1 o1) n1 c1):=ae wr x 1 _ _ _ kr
   have hD:=lW (af q0 o0) n1 c0 P wr (PqRow.below HR.out.1 hbr) (by omega) u0
   have HBr:Hid (_):=hbr
   clear kr hbr
   cases hd:iw P n1 with
   | true=>
    rw[hd]at hD
    have HN:Hid (R=160):=by
     show R=160
     rw[← HRR.out,HC.out,HI.out.1,hd]
     rfl
    clear hd
    go_wp2_with fail
    refine hD.mono ?_
    rintro r w3 ⟨rfl,H3⟩
    clear hD
    go_wp2_with fail
    go_ret
    exact⟨by rw[HN.out] <;> rfl,(HB.out.trans (HBr.out.mono HB.out.size)).trans (H3.out.mono (Nat.le_trans HB.out.size HBr.out.size))⟩
   | false=>
    rw[hd]at hD
    have HN0:Hid (iw P n1=false):=hd
    clear hd
    go_wp2_with fail
    refine hD.mono ?_
    rintro r w3 ⟨rfl,H3⟩
    clear hD y0 y1
    have hb3:Below wa.heap.size wa w3:=HBr.out.trans (H3.out.mono HBr.out.size)
    have kr:=(hb3.block x (Array.getElem?_eq_some_iff.1 HK.out).1).trans HK.out
    have y1:w3.cell? ⟨x,1,none⟩=some (.slice (af q1 o1) n1 c1):=ae w3 x 1 _ _ _ kr
    have hD:=lW (af q1 o1) n1 c1 Q w3 (PqRow.below HR.out.2 hb3) (by omega) u1
    have HB3:Hid (_):=hb3
    clear kr hb3
    cases hd:iw Q n1 with
    | true=>
     rw[hd]at hD
     have HN:Hid (R=160):=by
      show R=160
      rw[← HRR.out,HC.out,HI.out.1,HN0.out,hd]
      rfl
     clear hd
     go_wp2_with fail
     refine hD.mono ?_
     rintro r w4 ⟨rfl,H4⟩
     clear hD
     go_wp2_with fail
     go_ret
     exact⟨by rw[HN.out] <;> rfl,(HB.out.trans (HB3.out.mono HB.out.size)).trans (H4.out.mono (Nat.le_trans HB.out.size HB3.out.size))⟩
    | false=>
     rw[hd]at hD
     have HN:Hid (R=0):=by
      show R=0
      rw[← HRR.out,HC.out,HI.out.1,HN0.out,hd]
      rfl
     clear hd
     go_wp2_with fail
     refine hD.mono ?_
     rintro r w4 ⟨rfl,H4⟩
     clear hD
     go_wp2_with fail
     go_ret
     exact⟨by rw[HN.out] <;> rfl,(HB.out.trans (HB3.out.mono HB.out.size)).trans (H4.out.mono (Nat.le_trans HB.out.size HB3.out.size))⟩
  have hlt':((i:Nat):Int) < (((n1+n1:Nat):Nat):Int):=by omega
  obtain⟨q,off,ea,cc⟩:=(PqRow.below H1.out.1 HI.out.2) i hlt
  subst ea
  obtain⟨p,hP⟩:∃ y,C i=y:=⟨_,rfl⟩
  rw[hP]at cc
  have c0:wr.cell? ⟨q,off+i*5,none⟩=some (.int .u32 (p.c:Nat)):=cc 0 _ rfl
  have c1:wr.cell? ⟨q,off+i*5+1,none⟩=some (.int .i64 p.o):=cc 1 _ rfl
  have c2:wr.cell? ⟨q,off+i*5+2,none⟩=some (.int .i64 p.i):=cc 2 _ rfl
  have c3:wr.cell? ⟨q,off+i*5+3,none⟩=some (.int .i64 p.t):=cc 3 _ rfl
  have c4:wr.cell? ⟨q,off+i*5+4,none⟩=some (.int .u32 (p.n:Nat)):=cc 4 _ rfl
  have bA:=aC (Below.refl _ wr) (.cells #[.int .u32 (p.c:Nat),.int .i64 p.o,.int .i64 p.i,.int .i64 p.t,.int .u32 (p.n:Nat)] 83)
  have HP:Hid (_):=hP
  have HBx:Hid (_):=HI.out.2.trans (bA.mono HI.out.2.size)
  clear cc hP bA
  by_cases hl:p.law
  ·have hCk:=dY p.c p.o p.i p.t p.n (wr.alloc (.cells #[.int .u32 (p.c:Nat),.int .i64 p.o,.int .i64 p.i,.int .i64 p.t,.int .u32 (p.n:Nat)] 83)) 0 (if_pos (show sY p.c p.o p.i p.t p.n from hl))
   have HN:Hid (nE C (i+1)=true):=by
    show nE C (i+1)=true
    rw[rS,HI.out.1,HP.out]
    simpa using hl
   clear hl
   go_wp2_with fail
   refine hCk.mono ?_
   rintro r w3 ⟨rfl,b3⟩
   have HB3:Hid (_):=b3
   clear hCk b3
   go_wp2_with fail
   go_roundw
   case rel=>exact⟨i+1,by omega,by first | rfl | go_num,HN.out,HBx.out.trans (HB3.out.mono HBx.out.size)⟩
   case measure=>simp only[jk];omega
  ·have hCk:=dY p.c p.o p.i p.t p.n (wr.alloc (.cells #[.int .u32 (p.c:Nat),.int .i64 p.o,.int .i64 p.i,.int .i64 p.t,.int .u32 (p.n:Nat)] 83)) 90 (if_neg (show ¬ sY p.c p.o p.i p.t p.n from hl))
   have HN:Hid (R=90):=by
    show R=90
    rw[← HRR.out,HC.out]
    refine if_pos ?_
    rw[Bool.eq_false_iff]
    intro hh
    have:=List.all_eq_true.1 hh i (List.mem_range.2 hlt)
    rw[HP.out]at this
    exact hl (by simpa using this)
   clear hl
   go_wp2_with fail
   refine hCk.mono ?_
   rintro r w3 ⟨rfl,b3⟩
   have HB3:Hid (_):=b3
   clear hCk b3
   go_wp2_with fail
   go_ret
   have e1:Below wa.heap.size wa w3:=HB1.out.trans ((HBx.out.trans (HB3.out.mono HBx.out.size)).mono HB1.out.size)
   exact⟨by rw[HN.out] <;> rfl,HB.out.trans (e1.mono HB.out.size)⟩
end Go.Proofs.YtenilkloffnjlaaGreat
