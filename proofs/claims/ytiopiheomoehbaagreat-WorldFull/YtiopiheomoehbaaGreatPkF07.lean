/- Part 8 of the texts on which the proof rests: contracts of Go functions. -/
import Derived.Deep.RegionHeld3
import Derived.Test.YtiopiheomoehbaaGreatPkF01
import Derived.Test.YtiopiheomoehbaaGreatPkF02
import Derived.Test.YtiopiheomoehbaaGreatPkF06
namespace Go.Proofs.YtiopiheomoehbaaGreat
set_option maxRecDepth 100000
open Go.RowKit
theorem open_no (m g n mx:Nat) (s:Ms) (w:World) (hM:MR w m g n s) (h:mx=0∨n<10) :
  Calls Tryz.prog 61 #[.pointer (some ⟨m,0,none⟩),.int .u32 (mx:Nat)] w fun e w'=>e=.returned (.tuple #[.pointer none,.int .i64 2])∧w'=w:=by
 have q:=size_any m g n s w hM
 clear hM
 by_cases h0:mx=0
 ·subst h0
  clear h q
  go_enter Tryz.func61,Tryz.ntmps61
  go_wp2_with fail
  go_ret2
  exact⟨rfl,rfl⟩
 ·have h1:n<10:=by omega
  have h2:¬ (mx:Int)=0:=by omega
  clear h h0
  go_enter Tryz.func61,Tryz.ntmps61
  go_wp2_with (go_at_call 77;refine q.mono ?_;rintro e w' ⟨rfl,hw⟩;rw[hw];clear hw)
  go_ret2
  exact⟨rfl,rfl⟩
set_option maxRecDepth 100000 in
set_option maxHeartbeats 2000000 in
theorem open_off (m g n mx:Nat) (s:Ms) (w:World) (hM:MR w m g n s) (hn:10≤n) (h0:mx≠0) (ho:s.off=true) :
  Calls Tryz.prog 61 #[.pointer (some ⟨m,0,none⟩),.int .u32 (mx:Nat)] w fun e w'=>e=.returned (.tuple #[.pointer none,.int .i64 70])∧(Off [m,g] w w'∧MR w' m g n s):=by
 have q:=size_any m g n s w hM
 have h2:((mx:Int) == 0)=false:=by simpa using h0
 have h3:decide ((n:Int)<10)=false:=by simp;omega
 have hA:Off [m,g] w (w.alloc (.cells (CV m mx (fun _=>0) (fun _=>0) false) 186)):=Off.alloc _ _ _
 have M1:=hM.off (Off.alloc [] w (.cells (CV m mx (fun _=>0) (fun _=>0) false) 186)) (by simp) (by simp)
 have C1:CX (w.alloc (.cells (CV m mx (fun _=>0) (fun _=>0) false) 186)) w.heap.size m mx (fun _=>0) (fun _=>0) false:=⟨heap_alloc_new w _⟩
 have q2:=cread_off _ m g n mx _ _ false s _ M1 C1 ho
 have H:Hid (_):=And.intro hA M1
 clear hM hA M1 C1 h0
 go_enter Tryz.func61,Tryz.ntmps61
 go_wp2_with (go_at_call 77;refine q.mono ?_;rintro e w' ⟨rfl,hw⟩;rw[hw];clear hw)
 refine q2.mono ?_
 rintro e w' ⟨rfl,hw⟩
 rw[hw]
 clear hw
 go_wp2_with fail
 go_ret2
 exact⟨rfl,H.out⟩
set_option maxRecDepth 100000 in
set_option maxHeartbeats 2000000 in
theorem open_go (m g n mx:Nat) (s:Ms) (w:World) (hM:MR w m g n s) (hn:10≤n) (h0:mx≠0) (ho:s.off=false) (ht:s.t<9223372036854775000) :
  Calls Tryz.prog 61 #[.pointer (some ⟨m,0,none⟩),.int .u32 (mx:Nat)] w fun e w'=>
   ∃ p,e=.returned (.tuple #[.pointer p,.int .i64 (sqE n (mend s.bs) s)])∧Hid (Off [m,g] w w'∧MR w' m g n (sqS n (mend s.bs) s)∧(sqE n (mend s.bs) s=0→p=some ⟨w.heap.size,0,none⟩∧CS w' w.heap.size m mx (sqS n (mend s.bs) s).bs false)∧(¬ sqE n (mend s.bs) s=0→p=none)):=by
 have q:=size_any m g n s w hM
 have h2:((mx:Int) == 0)=false:=by simpa using h0
 have h3:decide ((n:Int)<10)=false:=by simp;omega
 have lm:=hM.lt
 have lg:=hM.lg
 have M1:=hM.off (Off.alloc [] w (.cells (CV m mx (fun _=>0) (fun _=>0) false) 186)) (by simp) (by simp)
 have C1:CX (w.alloc (.cells (CV m mx (fun _=>0) (fun _=>0) false) 186)) w.heap.size m mx (fun _=>0) (fun _=>0) false:=⟨heap_alloc_new w _⟩
 have q2:=cread_any _ m g n mx _ _ false s _ M1 C1 (by omega) (by omega) hn ho
 have hA:Off [m,g,w.heap.size] w (w.alloc (.cells (CV m mx (fun _=>0) (fun _=>0) false) 186)):=Off.alloc _ _ _
 have HA:Hid (_):=hA
 have q3:=fun w2 M2 C2=>mend_any w.heap.size m g n mx false s w2 M2 C2 (by omega) (by omega) hn ho ht
 obtain⟨E,hE⟩:∃ E,sqE n (mend s.bs) s=E:=⟨_,rfl⟩
 obtain⟨S,hS⟩:∃ S,sqS n (mend s.bs) s=S:=⟨_,rfl⟩
 rw[hE,hS]
 simp only[hE,hS]at q3
 clear hM M1 C1 h0 hE hS hA
 go_enter Tryz.func61,Tryz.ntmps61
 go_wp2_with (go_at_call 77;refine q.mono ?_;rintro e w' ⟨rfl,hw⟩;rw[hw];clear hw)
 refine q2.mono ?_
 rintro e w2 ⟨rfl,o2,m2,c2⟩
 have O2:=HA.out.trans o2.three'
 have q4:=q3 w2 m2 c2
 have H2:Hid (_):=O2
 clear O2 o2 q3 HA m2 c2 q2
 go_wp2_with fail
 refine q4.mono ?_
 rintro e w3 ⟨rfl,H3⟩
 obtain⟨o3,m3,c3⟩:=H3
 have o4:Off [m,g] w w3:=(H2.out.trans o3).only (fun k hk hl=>by simp only[List.mem_cons,List.not_mem_nil,or_false]at hk ⊢;omega)
 have H:Hid (_):=And.intro o4 (And.intro m3 c3)
 clear o3 o4 m3 c3 H2 q4 q
 by_cases he:E=0
 ·subst he
  go_wp2_with fail
  go_ret2
  obtain⟨O,M,C⟩:=H.out
  first | exact⟨_,rfl,O,M,rfl,C trivial⟩ | exact⟨_,rfl,O,M,rfl,C rfl⟩ | exact⟨_,rfl,O,M,rfl,C⟩ | exact⟨_,rfl,⟨O,M,rfl,C⟩⟩ | exact⟨_,rfl,⟨O,M,rfl,C rfl⟩⟩
 ·go_wp2_with fail
  go_ret2
  obtain⟨O,M,C⟩:=H.out
  exact⟨_,rfl,O,M,fun h=>absurd h he,fun _=>rfl⟩
def S0 (bs:Nat→Nat):Ms:=⟨bs,false,false,0,0⟩
set_option maxHeartbeats 1000000 in
theorem new_ok (n:Nat) (w:World) (hn:n≤4096) :
  Calls Tryz.prog 38 #[.int .i64 (n:Nat)] w fun e w'=>∃ b g,e=.returned (.tuple #[.pointer (some ⟨b,0,none⟩),.int .i64 0])∧Hid (w.heap.size≤b∧w.heap.size≤g∧Off [] w w'∧MR w' b g n (S0 fun _=>0)):=by
 obtain⟨i0,hi,hz0,hz1,hz2⟩:=info_parts info_u8
 go_enter Tryz.func38,Tryz.ntmps38
 go_wp2_with (at_make;refine wpList_make8 _ rfl (.tmp 10) (.tmp 10) 25 rfl w.heap.size 5 i0 Tryz.underlying25 hi hz0 hz1 hz2 _ _ _ _ n n rfl rfl rfl rfl (Nat.le_refl _) (by omega) (Nat.le_refl _) ?_)
 intro w1 hown1 hbel1
 have H:Hid (_):=And.intro hown1 hbel1
 clear hown1 hbel1
 go_wp2_with fail
 go_ret2
 obtain⟨hown1,hbel1⟩:=H.out
 have hlt:w.heap.size<w1.heap.size:=(hown1.lt _ rfl).2
 refine⟨_,w.heap.size,rfl,hbel1.size,Nat.le_refl _,(Off.of_below hbel1).trans (Off.alloc _ _ _),⟨⟨_,heap_alloc_new w1 _,?_⟩,by intro i _;show 0<256;omega,Int.le_refl _,by show (0:Int)≤_;omega,Int.le_refl _,hn⟩⟩
 refine⟨own_below (own_base hown1 (Nat.zero_le _)) ((Below.refl _ _).alloc (Nat.le_refl _) _),.inr ⟨Nat.ne_of_lt hlt,_,rfl⟩⟩
section
variable {w w':World} {b g n:Nat} {s:Ms}
end
end Go.Proofs.YtiopiheomoehbaaGreat
namespace Go.Proofs.YtiopiheomoehbaaGreat
set_option maxRecDepth 100000
open Go.RowKit
def A6:Array Value:=#[.int .i64 0,.int .i64 1,.int .i64 2,.int .i64 3,.int .i64 4,.int .i64 0]
def B6 (v:Nat):Array Value:=#[.int .u8 0,.int .u8 (bt v 0:Nat),.int .u8 (bt v 1:Nat),.int .u8 (bt v 2:Nat),.int .u8 (bt v 3:Nat),.int .u8 165]
structure S6 (w:World) (A B v:Nat):Prop where
 a:w.heap[A]?=some (.cells A6 3 (0,0))
 b:w.heap[B]?=some (.cells (B6 v) 5 (0,0))
section
variable {w w':World} {d m mx v:Nat} {dead:Bool}
end
end Go.Proofs.YtiopiheomoehbaaGreat
namespace Go.Proofs.YtiopiheomoehbaaGreat
set_option maxRecDepth 100000
open Go.RowKit
def opE (mx n:Nat) (s:Ms):Int:=if mx=0∨n<10 then 2 else if s.off then 70 else sqE n (mend s.bs) s
def opS (mx n:Nat) (s:Ms):Ms:=if mx=0∨n<10 then s else if s.off then s else sqS n (mend s.bs) s
structure Nx where
 v:Nat
 e:Int
 s:Ms
 z:Nat→Nat
 c:Bool
def nx (mx n:Nat) (z:Nat→Nat) (cut:Bool) (s:Ms):Nx:=
 if cut=true∨s.off=true then ⟨0,70,s,z,cut⟩ else if mx≤vz z then ⟨0,80,s,z,cut⟩ else
 if sqE n (six (tg z) (vz z+1)) s=0 then ⟨vz z+1,0,sqS n (six (tg z) (vz z+1)) s,(sqS n (six (tg z) (vz z+1)) s).bs,false⟩ else ⟨0,70,sqS n (six (tg z) (vz z+1)) s,z,true⟩
theorem sqE_val {n:Nat} {l:List (Nat × Nat)} {s:Ms} (hin:∀ x,x ∈ l→x.1<n∧x.2<256) (ho:s.off=false) (hl:0≤s.l):sqE n l s=0∨sqE n l s=70:=by
 rcases sq_all n l s (fun x hx=>(hin x hx).1) ho hl with ⟨h,_⟩ | ⟨h,_⟩
 ·exact .inl h
 ·exact .inr h
theorem sqS_t {n:Nat} {l:List (Nat × Nat)} {s:Ms} (hin:∀ x,x ∈ l→x.1<n∧x.2<256) (ho:s.off=false) (hl:0≤s.l):(sqS n l s).t≤s.t+l.length:=by
 rcases sq_all n l s (fun x hx=>(hin x hx).1) ho hl with ⟨_,h,_⟩ | ⟨_,h,_,h4⟩
 ·rw[h]
  exact Int.le_refl _
 ·rw[h]
  show s.t+s.l≤_
  omega
theorem opS_t (mx n:Nat) (s:Ms) (hl:0≤s.l):(opS mx n s).t≤s.t+6:=by
 unfold opS
 split
 ·omega
 ·split
  ·omega
  ·have:=sqS_t (mend_in s.bs n (by omega)) (by simpa using ‹¬ s.off=true›) hl
   have:=mend_len s.bs
   omega
theorem nx_t (mx n:Nat) (z:Nat→Nat) (cut:Bool) (s:Ms) (hn:10≤n) (hl:0≤s.l):(nx mx n z cut s).s.t≤s.t+6:=by
 unfold nx
 split
 ·show s.t≤s.t+6;omega
 ·split
  ·show s.t≤s.t+6;omega
  ·rename_i h _
   have ho:s.off=false:=by cases hh:s.off <;> simp[hh]at h ⊢
   have:=sqS_t (six_in (tg z) (vz z+1) n (tg_lt z) hn) ho hl
   split
   ·exact this
   ·exact this
theorem popen (m g n mx:Nat) (s:Ms) (w:World) (hM:MR w m g n s) (ht:s.t<9223372036854774000) :
  Calls Tryz.prog 61 #[.pointer (some ⟨m,0,none⟩),.int .u32 (mx:Nat)] w fun e w'=>∃ p,e=.returned (.tuple #[.pointer p,.int .i64 (opE mx n s)])∧Hid (Off [m,g] w w'∧MR w' m g n (opS mx n s) ∧
   (opE mx n s=0→∃ c,p=some ⟨c,0,none⟩∧w.heap.size≤c∧CS w' c m mx (opS mx n s).bs false)∧(¬ opE mx n s=0→p=none)):=by
 unfold opE opS
 by_cases h1:mx=0∨n<10
 ·rw[if_pos h1,if_pos h1]
  refine (open_no m g n mx s w hM h1).mono ?_
  rintro e w' ⟨rfl,rfl⟩
  exact⟨_,rfl,Off.refl _ _,hM,fun h=>by omega,fun _=>rfl⟩
 ·rw[if_neg h1,if_neg h1]
  by_cases ho:s.off=true
  ·rw[if_pos ho,if_pos ho]
   refine (open_off m g n mx s w hM (by omega) (by omega) ho).mono ?_
   rintro e w' ⟨rfl,o,M⟩
   exact⟨_,rfl,o,M,fun h=>by omega,fun _=>rfl⟩
  ·rw[if_neg ho,if_neg ho]
   refine (open_go m g n mx s w hM (by omega) (by omega) (by simpa using ho) (by omega)).mono ?_
   rintro e w' ⟨p,rfl,H⟩
   obtain⟨o,M,C,D⟩:=H.out
   exact⟨p,rfl,o,M,fun h=>⟨_,(C h).1,Nat.le_refl _,(C h).2⟩,D⟩
theorem opened (m g n mx:Nat) (s:Ms) (w:World) (hM:MR w m g n s) (h:opE mx n s=0):mx≠0∧10≤n∧vz (opS mx n s).bs=vz s.bs:=by
 unfold opE at h
 unfold opS
 by_cases h1:mx=0∨n<10
 ·rw[if_pos h1]at h;omega
 ·rw[if_neg h1]at h ⊢
  by_cases ho:s.off=true
  ·rw[if_pos ho]at h;omega
  ·rw[if_neg ho]at h ⊢
   refine⟨by omega,by omega,?_⟩
   rw[sq_bs (mend_in s.bs n (by omega)) (by simpa using ho) hM.l0 h]
   have q:=vz_mend s.bs 6 (fun i hi=>hM.byte i (by omega))
   rwa [List.take_of_length_le (mend_len s.bs)]at q
theorem pnext (c m g n mx:Nat) (z:Nat→Nat) (cut:Bool) (s:Ms) (w:World) (hM:MR w m g n s) (hC:CS w c m mx z cut) (hz:Bz z) (hzs:cut=false→z=s.bs) (hcm:c≠m) (hcg:c≠g) (hn:10≤n) (hx:mx<4294967296) (ht:s.t<9223372036854774000) :
  Calls Tryz.prog 213 #[.pointer (some ⟨c,0,none⟩)] w fun e w'=>e=.returned (.tuple #[.int .u32 ((nx mx n z cut s).v:Nat),.int .i64 (nx mx n z cut s).e]) ∧
   (Off [m,g,c] w w'∧MR w' m g n (nx mx n z cut s).s∧CS w' c m mx (nx mx n z cut s).z (nx mx n z cut s).c):=by
 unfold nx
 by_cases h1:cut=true∨s.off=true
 ·rw[if_pos h1]
  refine (next_cut c m g n mx z cut s w hM hC h1).mono ?_
  rintro e w' ⟨rfl,rfl⟩
  exact⟨rfl,Off.refl _ _,hM,hC⟩
 ·rw[if_neg h1]
  have hc:cut=false:=by cases cut <;> simp at h1 ⊢
  have ho:s.off=false:=by cases hh:s.off <;> simp[hh]at h1 ⊢
  subst hc
  by_cases h2:mx≤vz z
  ·rw[if_pos h2]
   refine (next_full c m g n mx z s w hM hC hz ho h2).mono ?_
   rintro e w' ⟨rfl,rfl⟩
   exact⟨rfl,Off.refl _ _,hM,hC⟩
  ·rw[if_neg h2]
   obtain rfl:=hzs rfl
   have q:=next_go c m g n mx s w hM hC hcm hcg hn hx ho (by omega) (by omega)
   by_cases h3:sqE n (six (tg s.bs) (vz s.bs+1)) s=0
   ·rw[if_pos h3]
    rw[if_pos h3]at q
    refine q.mono ?_
    rintro e w' ⟨rfl,o,M,C,_⟩
    exact⟨by rw[h3],o,M,C h3⟩
   ·rw[if_neg h3]
    rw[if_neg h3]at q
    have h4:=(sqE_val (six_in (tg s.bs) (vz s.bs+1) n (tg_lt _) hn) ho hM.l0).resolve_left h3
    refine q.mono ?_
    rintro e w' ⟨rfl,o,M,_,C⟩
    exact⟨by rw[h4],o,M,C h3⟩
def DC (l c:Nat):Array Value:=#[.int .i64 l,.int .i64 c]
structure DR (w:World) (b l c:Nat):Prop where
 at_:w.heap[b]?=some (.cells (DC l c) 170 (0,0))
 lo:1≤l
 hi:l≤1048576
 le:c≤l
section
variable {w w':World} {b l c:Nat}
theorem DR.lt (h:DR w b l c):b<w.heap.size:=(Array.getElem?_eq_some_iff.1 h.at_).1
theorem DR.c0 (h:DR w b l c):w.cell? ⟨b,0,none⟩=some (.int .i64 l):=cell_of_row w b 0 _ _ _ h.at_
theorem DR.c1 (h:DR w b l c):w.cell? ⟨b,1,none⟩=some (.int .i64 c):=cell_of_row w b 1 _ _ _ h.at_
theorem DR.fz (h:DR w b l c) (j:Nat):w.frozen? ⟨b,j,none⟩=false:=frozen_of_row w b j _ _ h.at_
theorem DR.off {m:List Nat} (h:DR w b l c) (q:Off m w w') (hb:b ∉ m):DR w' b l c:=⟨(q.block b h.lt hb).trans h.at_,h.lo,h.hi,h.le⟩
theorem DR.set (h:DR w b l c) (x:Nat) (hx:x≤l):DR (w.setCell ⟨b,1,none⟩ (.int .i64 x)) b l x:=⟨heap_setCell_same _ _ _ _ _ _ h.at_,h.lo,h.hi,hx⟩
end
def tk (l c n:Nat):Nat:=c+min n (l-c)
def told (l c n:Nat):Bool:=decide (c<l∧l≤c+n)
theorem tk_le (l c n:Nat) (h:c≤l):tk l c n≤l:=by unfold tk;omega
theorem wnew_ok (l:Nat) (w:World) (h1:1≤l) (h2:l≤1048576) :
  Calls Tryz.prog 75 #[.int .i64 l] w fun e w'=>e=.returned (.tuple #[.pointer (some ⟨w.heap.size,0,none⟩),.int .i64 0])∧(Off [] w w'∧DR w' w.heap.size l 0):=by
 go_enter Tryz.func75,Tryz.ntmps75
 go_wp2
 go_ret2
 exact⟨rfl,Off.alloc _ _ _,⟨heap_alloc_new w _,h1,h2,Nat.zero_le _⟩⟩
set_option maxRecDepth 100000 in
set_option maxHeartbeats 400000 in
theorem goOn_any (l c n b:Nat) (w:World) (h:DR w b l c) (hn:n≤9223372036854775807) :
  Calls Tryz.prog 239 #[.pointer (some ⟨b,0,none⟩),.int .i64 n] w fun e w'=>e=.returned (.bool (told l c n))∧w'=w.setCell ⟨b,1,none⟩ (.int .i64 (tk l c n:Nat)):=by
 have h0:=h.c0
 have h1:=h.c1
 have hl:=i64_load _ _ w h1
 have hc:=i64_cas ⟨b,1,none⟩ c (tk l c n:Nat) w h1 (h.fz 1)
 obtain⟨_,_,hi,le⟩:=h
 obtain⟨L,hL⟩:∃ L,L=l-c:=⟨_,rfl⟩
 have e1:IntKind.i64.wrap ((l:Int) - (c:Int))=((L:Nat):Int):=by rw[IntKind.wrap_i64];omega
 have e4:told l c n=(decide (0<L) && decide (L≤n)):=by unfold told;rw[Bool.eq_iff_iff];simp;omega
 have e5:tk l c n=if L<n then c+L else c+n:=by unfold tk;split <;> omega
 generalize told l c n=t at *
 generalize tk l c n=s at *
 rcases Nat.lt_trichotomy L n with g | g | g
 ·rw[if_pos g]at e5
  have e3:IntKind.i64.wrap ((c:Int) + (L:Int))=(s:Int):=by rw[e5,IntKind.wrap_i64];omega
  clear e5
  have g2:L≤n:=by omega
  by_cases g1:0<L
  ·have ht:t=true:=by rw[e4];simp[g1,g2]
   subst ht
   clear e4 hL le hi hn
   go_enter Tryz.func239,Tryz.ntmps239
   go_wp2_with fail
   refine wp_loop_once ?_
   go_wp2_with (first | (go_at_call 71;refine hl.mono ?_;rintro e w' ⟨rfl,rfl⟩) | (go_at_call 240;refine hc.mono ?_;rintro e w' ⟨rfl,rfl⟩))
   go_ret
   exact⟨rfl,rfl⟩
  ·have ht:t=false:=by rw[e4];simp[g1]
   subst ht
   clear e4 hL le hi hn
   go_enter Tryz.func239,Tryz.ntmps239
   go_wp2_with fail
   refine wp_loop_once ?_
   go_wp2_with (first | (go_at_call 71;refine hl.mono ?_;rintro e w' ⟨rfl,rfl⟩) | (go_at_call 240;refine hc.mono ?_;rintro e w' ⟨rfl,rfl⟩))
   go_ret
   exact⟨rfl,rfl⟩
 ·subst g
  rw[if_neg (by omega)]at e5
  have e3:IntKind.i64.wrap ((c:Int) + (L:Int))=(s:Int):=by rw[e5,IntKind.wrap_i64];omega
  clear e5
  by_cases g1:0<L
  ·have ht:t=true:=by rw[e4];simp[g1]
   subst ht
   clear e4 hL le hi hn
   go_enter Tryz.func239,Tryz.ntmps239
   go_wp2_with fail
   refine wp_loop_once ?_
   go_wp2_with (first | (go_at_call 71;refine hl.mono ?_;rintro e w' ⟨rfl,rfl⟩) | (go_at_call 240;refine hc.mono ?_;rintro e w' ⟨rfl,rfl⟩))
   go_ret
   exact⟨rfl,rfl⟩
  ·have ht:t=false:=by rw[e4];simp[g1]
   subst ht
   clear e4 hL le hi hn
   go_enter Tryz.func239,Tryz.ntmps239
   go_wp2_with fail
   refine wp_loop_once ?_
   go_wp2_with (first | (go_at_call 71;refine hl.mono ?_;rintro e w' ⟨rfl,rfl⟩) | (go_at_call 240;refine hc.mono ?_;rintro e w' ⟨rfl,rfl⟩))
   go_ret
   exact⟨rfl,rfl⟩
 ·rw[if_neg (by omega)]at e5
  have e3:IntKind.i64.wrap ((c:Int) + (n:Int))=(s:Int):=by rw[e5,IntKind.wrap_i64];omega
  clear e5
  have g1:0<L:=by omega
  have ht:t=false:=by rw[e4];simp;omega
  subst ht
  have g2:¬ L≤n:=by omega
  clear e4 hL le hi hn
  go_enter Tryz.func239,Tryz.ntmps239
  go_wp2_with fail
  refine wp_loop_once ?_
  go_wp2_with (first | (go_at_call 71;refine hl.mono ?_;rintro e w' ⟨rfl,rfl⟩) | (go_at_call 240;refine hc.mono ?_;rintro e w' ⟨rfl,rfl⟩))
  go_ret
  exact⟨rfl,rfl⟩
theorem wticks_any (l c n b:Nat) (w:World) (h:DR w b l c) (hn:n≤9223372036854775807) :
  Calls Tryz.prog 237 #[.pointer (some ⟨b,0,none⟩),.int .i64 n] w fun e w'=>e=.returned (.tuple #[.bool (told l c n),.int .i64 0])∧(Off [b] w w'∧DR w' b l (tk l c n)):=by
 have hg:=goOn_any l c n b w h hn
 have hk:Hid (Off [b] w (w.setCell ⟨b,1,none⟩ (.int .i64 (tk l c n:Nat)))∧DR (w.setCell ⟨b,1,none⟩ (.int .i64 (tk l c n:Nat))) b l (tk l c n)):=⟨Off.setCell _ _ _ _,h.set _ (tk_le l c n h.le)⟩
 generalize told l c n=t at *
 clear h
 go_enter Tryz.func237,Tryz.ntmps237
 go_wp2_with fail
 refine hg.mono ?_
 rintro e w' ⟨rfl,hw⟩
 have hj:=hw ▸ hk
 clear hk hg hw
 go_wp2_with fail
 go_ret2
 exact⟨rfl,hj.out⟩
theorem wticks_neg (n:Int) (b:Nat) (w:World) (hn:n<0) :
  Calls Tryz.prog 237 #[.pointer (some ⟨b,0,none⟩),.int .i64 n] w fun e w'=>e=.returned (.tuple #[.bool false,.int .i64 2])∧w'=w:=by
 go_enter Tryz.func237,Tryz.ntmps237
 go_wp2_with fail
 go_ret2
 exact⟨rfl,rfl⟩
theorem wfeed_any (l c b:Nat) (w:World) (h:DR w b l c) :
  Calls Tryz.prog 179 #[.pointer (some ⟨b,0,none⟩)] w fun e w'=>e=.returned (.tuple #[])∧(Off [b] w w'∧DR w' b l 0):=by
 have hs:=i64_store ⟨b,1,none⟩ c 0 w h.c1 (h.fz 1)
 have hk:Hid (Off [b] w (w.setCell ⟨b,1,none⟩ (.int .i64 ((0:Nat):Int)))∧DR (w.setCell ⟨b,1,none⟩ (.int .i64 ((0:Nat):Int))) b l 0):=⟨Off.setCell _ _ _ _,h.set _ (Nat.zero_le _)⟩
 clear h
 go_enter Tryz.func179,Tryz.ntmps179
 go_wp2_with fail
 refine hs.mono ?_
 rintro e w' ⟨rfl,hw⟩
 have hj:Hid (Off [b] w w'∧DR w' b l 0):=by rw[hw];exact hk
 clear hk hs hw
 go_wp2_with fail
 go_end0
 exact⟨rfl,hj.out⟩
theorem wsince_any (l c b:Nat) (w:World) (h:DR w b l c) :
  Calls Tryz.prog 52 #[.pointer (some ⟨b,0,none⟩)] w fun e w'=>e=.returned (.int .i64 c)∧w'=w:=by
 have hl:=i64_load _ _ w h.c1
 clear h
 go_enter Tryz.func52,Tryz.ntmps52
 go_wp2_with (go_at_call 71;refine hl.mono ?_;rintro e w' ⟨rfl,rfl⟩)
 go_ret
 exact⟨rfl,rfl⟩
end Go.Proofs.YtiopiheomoehbaaGreat
