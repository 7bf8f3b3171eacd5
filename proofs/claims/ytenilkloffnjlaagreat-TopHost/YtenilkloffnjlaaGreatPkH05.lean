/- Part 6: contracts that the proof rests on. -/
import Derived.Test.YtenilkloffnjlaaGreatPkH04
set_option maxHeartbeats 64000000
set_option maxRecDepth 100000
namespace Go.Proofs.YtenilkloffnjlaaGreat
open Tryz
open Go.RowKit
def nK (mx n:Nat) (s:Ms):Int:=if mx=0∨n<10 then 2 else if s.off then 70 else fM n (dj s.bs) s
def j3 (mx n:Nat) (s:Ms):Ms:=if mx=0∨n<10 then s else if s.off then s else gi n (dj s.bs) s
structure Nx where
 v:Nat
 e:Int
 s:Ms
 z:Nat→Nat
 c:Bool
def nx (mx n:Nat) (z:Nat→Nat) (cut:Bool) (s:Ms):Nx:=
 if cut=true∨s.off=true then ⟨0,70,s,z,cut⟩ else if mx≤vz z then ⟨0,80,s,z,cut⟩ else
 if fM n (cY (tg z) (vz z+1)) s=0 then ⟨vz z+1,0,gi n (cY (tg z) (vz z+1)) s,(gi n (cY (tg z) (vz z+1)) s).bs,false⟩ else ⟨0,70,gi n (cY (tg z) (vz z+1)) s,z,true⟩
theorem zt {n:Nat} {l:List (Nat × Nat)} {s:Ms} (hin:∀ x,x ∈ l→x.1<n∧x.2<256) (ho:s.off=false) (hl:0≤s.l):fM n l s=0∨fM n l s=70:=by
 rcases gd n l s (fun x hx=>(hin x hx).1) ho hl with ⟨h,_⟩ | ⟨h,_⟩
 ·exact .inl h
 ·exact .inr h
theorem aab {n:Nat} {l:List (Nat × Nat)} {s:Ms} (hin:∀ x,x ∈ l→x.1<n∧x.2<256) (ho:s.off=false) (hl:0≤s.l):(gi n l s).t≤s.t+l.length:=by
 rcases gd n l s (fun x hx=>(hin x hx).1) ho hl with ⟨_,h,_⟩ | ⟨_,h,_,h4⟩
 ·rw[h]
  exact Int.le_refl _
 ·rw[h]
  show s.t+s.l≤_
  omega
theorem abZ (mx n:Nat) (s:Ms) (hl:0≤s.l):(j3 mx n s).t≤s.t+6:=by
 unfold j3
 split
 ·omega
 ·split
  ·omega
  ·have:=aab (iS s.bs n (by omega)) (by simpa using ‹¬ s.off=true›) hl
   have:=pJ s.bs
   omega
theorem acM (mx n:Nat) (z:Nat→Nat) (cut:Bool) (s:Ms) (hn:10≤n) (hl:0≤s.l):(nx mx n z cut s).s.t≤s.t+6:=by
 unfold nx
 split
 ·show s.t≤s.t+6;omega
 ·split
  ·show s.t≤s.t+6;omega
  ·rename_i h _
   have ho:s.off=false:=by cases hh:s.off <;> simp[hh]at h ⊢
   have:=aab (fw (tg z) (vz z+1) n (lC z) hn) ho hl
   split
   ·exact this
   ·exact this
theorem zY (m g n mx:Nat) (s:Ms) (w:World) (hM:MR w m g n s) (ht:s.t<9223372036854774000) :
  Calls prog 76 #[ac m 0,.int .u32 (mx:Nat)] w fun e w'=>∃ p,e=.returned (.tuple #[.pointer p,.int .i64 (nK mx n s)])∧Hid (Off [m,g] w w'∧MR w' m g n (j3 mx n s) ∧
   (nK mx n s=0→∃ c,p=af c 0∧w.heap.size≤c∧CS w' c m mx (j3 mx n s).bs false)∧(¬ nK mx n s=0→p=none)):=by
 unfold nK j3
 by_cases h1:mx=0∨n<10
 ·rw[if_pos h1,if_pos h1]
  refine (yM m g n mx s w hM h1).mono ?_
  rintro e w' ⟨rfl,rfl⟩
  exact⟨_,rfl,Off.refl _ _,hM,fun h=>by omega,fun _=>rfl⟩
 ·rw[if_neg h1,if_neg h1]
  by_cases ho:s.off=true
  ·rw[if_pos ho,if_pos ho]
   refine (wm m g n mx s w hM (by omega) (by omega) ho).mono ?_
   rintro e w' ⟨rfl,o,M⟩
   exact⟨_,rfl,o,M,fun h=>by omega,fun _=>rfl⟩
  ·rw[if_neg ho,if_neg ho]
   refine (yL m g n mx s w hM (by omega) (by omega) (by simpa using ho) (by omega)).mono ?_
   rintro e w' ⟨p,rfl,H⟩
   obtain⟨o,M,C,D⟩:=H.out
   exact⟨p,rfl,o,M,fun h=>⟨_,(C h).1,Nat.le_refl _,(C h).2⟩,D⟩
theorem aaR (m g n mx:Nat) (s:Ms) (w:World) (hM:MR w m g n s) (h:nK mx n s=0):mx≠0∧10≤n∧vz (j3 mx n s).bs=vz s.bs:=by
 unfold nK at h
 unfold j3
 by_cases h1:mx=0∨n<10
 ·rw[if_pos h1]at h;omega
 ·rw[if_neg h1]at h ⊢
  by_cases ho:s.off=true
  ·rw[if_pos ho]at h;omega
  ·rw[if_neg ho]at h ⊢
   refine⟨by omega,by omega,?_⟩
   rw[qt (iS s.bs n (by omega)) (by simpa using ho) hM.l0 h]
   have q:=oq s.bs 6 (fun i hi=>hM.byte i (by omega))
   rwa [List.take_of_length_le (pJ s.bs)]at q
theorem ab9 (c m g n mx:Nat) (z:Nat→Nat) (cut:Bool) (s:Ms) (w:World) (hM:MR w m g n s) (hC:CS w c m mx z cut) (hz:Bz z) (hzs:cut=false→z=s.bs) (hcm:c≠m) (hcg:c≠g) (hn:10≤n) (hx:mx<4294967296) (ht:s.t<9223372036854774000) :
  Calls prog 237 #[ac c 0] w fun e w'=>e=.returned (.tuple #[.int .u32 ((nx mx n z cut s).v:Nat),.int .i64 (nx mx n z cut s).e]) ∧
   (Off [m,g,c] w w'∧MR w' m g n (nx mx n z cut s).s∧CS w' c m mx (nx mx n z cut s).z (nx mx n z cut s).c):=by
 unfold nx
 by_cases h1:cut=true∨s.off=true
 ·rw[if_pos h1]
  refine (we c m g n mx z cut s w hM hC h1).mono ?_
  rintro e w' ⟨rfl,rfl⟩
  exact⟨rfl,Off.refl _ _,hM,hC⟩
 ·rw[if_neg h1]
  have hc:cut=false:=by cases cut <;> simp at h1 ⊢
  have ho:s.off=false:=by cases hh:s.off <;> simp[hh]at h1 ⊢
  subst hc
  by_cases h2:mx≤vz z
  ·rw[if_pos h2]
   refine (tV c m g n mx z s w hM hC hz ho h2).mono ?_
   rintro e w' ⟨rfl,rfl⟩
   exact⟨rfl,Off.refl _ _,hM,hC⟩
  ·rw[if_neg h2]
   obtain rfl:=hzs rfl
   have q:=yF c m g n mx s w hM hC hcm hcg hn hx ho (by omega) (by omega)
   by_cases h3:fM n (cY (tg s.bs) (vz s.bs+1)) s=0
   ·rw[if_pos h3]
    rw[if_pos h3]at q
    refine q.mono ?_
    rintro e w' ⟨rfl,o,M,C,_⟩
    exact⟨by rw[h3],o,M,C h3⟩
   ·rw[if_neg h3]
    rw[if_neg h3]at q
    have h4:=(zt (fw (tg s.bs) (vz s.bs+1) n (lC _) hn) ho hM.l0).resolve_left h3
    refine q.mono ?_
    rintro e w' ⟨rfl,o,M,_,C⟩
    exact⟨by rw[h4],o,M,C h3⟩
def DC (l c:Nat):Array Value:=#[.int .i64 l,.int .i64 c]
structure DR (w:World) (b l c:Nat):Prop where
 at_:w.heap[b]?=some (.cells (DC l c) 198 (0,0))
 lo:1≤l
 hi:l≤1048576
 le:c≤l
section
variable {w w':World} {b l c:Nat}
theorem DR.lt (h:DR w b l c):b<w.heap.size:=(Array.getElem?_eq_some_iff.1 h.at_).1
theorem DR.c0 (h:DR w b l c):w.cell? ⟨b,0,none⟩=some (.int .i64 l):=ae w b 0 _ _ _ h.at_
theorem DR.c1 (h:DR w b l c):w.cell? ⟨b,1,none⟩=some (.int .i64 c):=ae w b 1 _ _ _ h.at_
theorem DR.fz (h:DR w b l c) (j:Nat):w.frozen? ⟨b,j,none⟩=false:=frozen_of_row w b j _ _ h.at_
theorem DR.off {m:List Nat} (h:DR w b l c) (q:Off m w w') (hb:b ∉ m):DR w' b l c:=⟨(q.block b h.lt hb).trans h.at_,h.lo,h.hi,h.le⟩
theorem DR.set (h:DR w b l c) (x:Nat) (hx:x≤l):DR (w.setCell ⟨b,1,none⟩ (.int .i64 x)) b l x:=⟨heap_setCell_same _ _ _ _ _ _ h.at_,h.lo,h.hi,hx⟩
end
def tk (l c n:Nat):Nat:=c+min n (l-c)
def lW (l c n:Nat):Bool:=decide (c<l∧l≤c+n)
theorem ach (l c n:Nat) (h:c≤l):tk l c n≤l:=by unfold tk;omega
theorem tb (l:Nat) (w:World) (h1:1≤l) (h2:l≤1048576) :
  Calls prog 97 #[.int .i64 l] w fun e w'=>e=.returned (.tuple #[ac w.heap.size 0,.int .i64 0])∧(Off [] w w'∧DR w' w.heap.size l 0):=by
 go_enter func97,ntmps97
 go_wp2
 go_ret2
 exact⟨rfl,Off.alloc _ _ _,⟨aB w _,h1,h2,Nat.zero_le _⟩⟩
theorem vq (l c n b:Nat) (w:World) (h:DR w b l c) (hn:n≤9223372036854775807) :
  Calls prog 262 #[ac b 0,.int .i64 n] w fun e w'=>e=.returned (.bool (lW l c n))∧w'=w.setCell ⟨b,1,none⟩ (.int .i64 (tk l c n:Nat)):=by
 have h0:=h.c0
 have h1:=h.c1
 have hl:=pG _ _ w h1
 have hc:=yA ⟨b,1,none⟩ c (tk l c n:Nat) w h1 (h.fz 1)
 obtain⟨_,_,hi,le⟩:=h
 obtain⟨L,hL⟩:∃ L,L=l-c:=⟨_,rfl⟩
 have e1:IntKind.i64.wrap ((l:Int) - (c:Int))=((L:Nat):Int):=by rw[IntKind.wrap_i64];omega
 have e4:lW l c n=(decide (0<L) && decide (L≤n)):=by unfold lW;rw[Bool.eq_iff_iff];simp;omega
 have e5:tk l c n=if L<n then c+L else c+n:=by unfold tk;split <;> omega
 generalize lW l c n=t at *
 generalize tk l c n=s at *
 rcases Nat.lt_trichotomy L n with g | g | g
 ·rw[if_pos g]at e5
  have e3:IntKind.i64.wrap ((c:Int) + (L:Int))=(s:Int):=by rw[e5,IntKind.wrap_i64];omega
  clear e5
  have g2:L≤n:=by omega
  by_cases g1:0<L
  ·have ht:t=true:=by rw[e4];simp[g1,g2]
   subst ht
   clear e4 hL le hi hn
   go_enter func262,ntmps262
   go_wp2_with fail
   refine wp_loop_once ?_
   go_wp2_with (first | (go_at_call 86;refine hl.mono ?_;rintro e w' ⟨rfl,rfl⟩) | (go_at_call 263;refine hc.mono ?_;rintro e w' ⟨rfl,rfl⟩))
   go_ret
   exact⟨rfl,rfl⟩
  ·have ht:t=false:=by rw[e4];simp[g1]
   subst ht
   clear e4 hL le hi hn
   go_enter func262,ntmps262
   go_wp2_with fail
   refine wp_loop_once ?_
   go_wp2_with (first | (go_at_call 86;refine hl.mono ?_;rintro e w' ⟨rfl,rfl⟩) | (go_at_call 263;refine hc.mono ?_;rintro e w' ⟨rfl,rfl⟩))
   go_ret
   exact⟨rfl,rfl⟩
 ·subst g
  rw[if_neg (by omega)]at e5
  have e3:IntKind.i64.wrap ((c:Int) + (L:Int))=(s:Int):=by rw[e5,IntKind.wrap_i64];omega
  clear e5
  by_cases g1:0<L
  ·have ht:t=true:=by rw[e4];simp[g1]
   subst ht
   clear e4 hL le hi hn
   go_enter func262,ntmps262
   go_wp2_with fail
   refine wp_loop_once ?_
   go_wp2_with (first | (go_at_call 86;refine hl.mono ?_;rintro e w' ⟨rfl,rfl⟩) | (go_at_call 263;refine hc.mono ?_;rintro e w' ⟨rfl,rfl⟩))
   go_ret
   exact⟨rfl,rfl⟩
  ·have ht:t=false:=by rw[e4];simp[g1]
   subst ht
   clear e4 hL le hi hn
   go_enter func262,ntmps262
   go_wp2_with fail
   refine wp_loop_once ?_
   go_wp2_with (first | (go_at_call 86;refine hl.mono ?_;rintro e w' ⟨rfl,rfl⟩) | (go_at_call 263;refine hc.mono ?_;rintro e w' ⟨rfl,rfl⟩))
   go_ret
   exact⟨rfl,rfl⟩
 ·rw[if_neg (by omega)]at e5
  have e3:IntKind.i64.wrap ((c:Int) + (n:Int))=(s:Int):=by rw[e5,IntKind.wrap_i64];omega
  clear e5
  have g1:0<L:=by omega
  have ht:t=false:=by rw[e4];simp;omega
  subst ht
  have g2:¬ L≤n:=by omega
  clear e4 hL le hi hn
  go_enter func262,ntmps262
  go_wp2_with fail
  refine wp_loop_once ?_
  go_wp2_with (first | (go_at_call 86;refine hl.mono ?_;rintro e w' ⟨rfl,rfl⟩) | (go_at_call 263;refine hc.mono ?_;rintro e w' ⟨rfl,rfl⟩))
  go_ret
  exact⟨rfl,rfl⟩
theorem lI (l c n b:Nat) (w:World) (h:DR w b l c) (hn:n≤9223372036854775807) :
  Calls prog 260 #[ac b 0,.int .i64 n] w fun e w'=>e=.returned (.tuple #[.bool (lW l c n),.int .i64 0])∧(Off [b] w w'∧DR w' b l (tk l c n)):=by
 have hg:=vq l c n b w h hn
 have hk:Hid (Off [b] w (w.setCell ⟨b,1,none⟩ (.int .i64 (tk l c n:Nat)))∧DR (w.setCell ⟨b,1,none⟩ (.int .i64 (tk l c n:Nat))) b l (tk l c n)):=⟨Off.setCell _ _ _ _,h.set _ (ach l c n h.le)⟩
 generalize lW l c n=t at *
 clear h
 go_enter func260,ntmps260
 go_wp2_with fail
 refine hg.mono ?_
 rintro e w' ⟨rfl,hw⟩
 have hj:=hw ▸ hk
 clear hk hg hw
 go_wp2_with fail
 go_ret2
 exact⟨rfl,hj.out⟩
theorem lJ (n:Int) (b:Nat) (w:World) (hn:n<0) :
  Calls prog 260 #[ac b 0,.int .i64 n] w fun e w'=>e=.returned (.tuple #[.bool false,.int .i64 2])∧w'=w:=by
 go_enter func260,ntmps260
 go_wp2_with fail
 go_ret2
 exact⟨rfl,rfl⟩
theorem mX (l c b:Nat) (w:World) (h:DR w b l c) :
  Calls prog 203 #[ac b 0] w fun e w'=>e=.returned (.tuple #[])∧(Off [b] w w'∧DR w' b l 0):=by
 have hs:=tS ⟨b,1,none⟩ c 0 w h.c1 (h.fz 1)
 have hk:Hid (Off [b] w (w.setCell ⟨b,1,none⟩ (.int .i64 ((0:Nat):Int)))∧DR (w.setCell ⟨b,1,none⟩ (.int .i64 ((0:Nat):Int))) b l 0):=⟨Off.setCell _ _ _ _,h.set _ (Nat.zero_le _)⟩
 clear h
 go_enter func203,ntmps203
 go_wp2_with fail
 refine hs.mono ?_
 rintro e w' ⟨rfl,hw⟩
 have hj:Hid (Off [b] w w'∧DR w' b l 0):=by rw[hw];exact hk
 clear hk hs hw
 go_wp2_with fail
 go_end0
 exact⟨rfl,hj.out⟩
theorem lH (l c b:Nat) (w:World) (h:DR w b l c) :
  Calls prog 61 #[ac b 0] w fun e w'=>e=.returned (.int .i64 c)∧w'=w:=by
 have hl:=pG _ _ w h.c1
 clear h
 go_enter func61,ntmps61
 go_wp2_with (go_at_call 86;refine hl.mono ?_;rintro e w' ⟨rfl,rfl⟩)
 go_ret
 exact⟨rfl,rfl⟩
end Go.Proofs.YtenilkloffnjlaaGreat
