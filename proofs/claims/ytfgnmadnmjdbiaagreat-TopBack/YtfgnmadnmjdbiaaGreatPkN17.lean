/- Part 18: contracts that the proof rests on. -/
import Derived.RegionTactic
import Derived.Deep.RegionHeld3
import Derived.Maps.AppendAt
import Derived.Test.YtfgnmadnmjdbiaaGreatPkN16
set_option maxHeartbeats 64000000
set_option maxRecDepth 100000
namespace Go.Proofs.YtfgnmadnmjdbiaaGreat
open Tryz
open Go.RowKit
def cE (n at_:Int) (x:Nat):Int:=if n<0∨65536<n then 2 else if x=0∨at_<0∨8*n<at_+PM.bl x then 30 else 0
theorem nW {n at_:Int} {x:Nat} (h:n<0∨65536<n):cE n at_ x=2:=by unfold cE;rw[if_pos h]
theorem nQ {n at_:Int} {x:Nat} (h:¬ (n<0∨65536<n)) (h2:x=0∨at_<0∨8*n<at_+PM.bl x):cE n at_ x=30:=by unfold cE;rw[if_neg h,if_pos h2]
theorem uu {n at_:Int} {x:Nat} (h:¬ (n<0∨65536<n)) (h2:¬ (x=0∨at_<0∨8*n<at_+PM.bl x)):cE n at_ x=0:=by unfold cE;rw[if_neg h,if_neg h2]
theorem ot {n at_:Int} {x:Nat} (h:cE n at_ x≠0):(n<0∨65536<n)∨(¬ (n<0∨65536<n)∧(x=0∨at_<0∨8*n<at_+PM.bl x)):=by
 by_cases h1:n<0∨65536<n
 ·exact .inl h1
 ·by_cases h2:x=0∨at_<0∨8*n<at_+PM.bl x
  ·exact .inr ⟨h1,h2⟩
  ·exact absurd (uu h1 h2) h
def zE (B:Nat) (w':World) (n at_ x:Nat) (v:Value):Prop:=
 ∃ f,w'.ownsRow B 5 1 v n (CB f n)∧(∀ i,i<n→f i<256)∧∀ k,k<8*n→PM.fb f k=PM.ly at_ (PM.bl x) x (PM.bl x) k
theorem tL (n at_:Int) (x:Nat) (w:World) (hx:x<4294967296) (hn : -9223372036854775808≤n∧n<9223372036854775808) (ha : -9223372036854775808≤at_∧at_<9223372036854775808) (h:cE n at_ x≠0) :
  Calls prog 108 #[.int .i64 n,.int .i64 at_,.int .u32 x] w fun e w'=>e=.returned (.tuple #[.slice none 0 0,.int .i64 (cE n at_ x)])∧w'=w:=by
 have hL:=kJ x w hx
 have hbl:=PM.bl_le (n:=x) (k:=32) (by omega)
 rcases ot h with h1 | ⟨h1,h2⟩
 ·rw[nW h1]
  clear h hL
  by_cases hn0:n<0
  ·go_enter func108,ntmps108
   go_wp2
   go_ret2
   exact⟨rfl,rfl⟩
  ·have hn1:65536<n:=by omega
   clear h1
   go_enter func108,ntmps108
   go_wp2
   go_ret2
   exact⟨rfl,rfl⟩
 ·rw[nQ h1 h2]
  have hn0:0≤n:=by omega
  have hn1:n≤65536:=by omega
  clear h h1
  by_cases hx0:x=0
  ·subst hx0
   clear h2
   rw[PM.bl_zero]at hL
   go_enter func108,ntmps108
   go_wp2_with (go_at_call 131;refine hL.mono ?_;rintro e w' ⟨rfl,rfl⟩)
   go_ret2
   exact⟨rfl,rfl⟩
  ·have hxn:((x:Int) == 0)=false:=by simp;omega
   generalize PM.bl x=s at *
   by_cases ha0:at_<0
   ·clear h2
    go_enter func108,ntmps108
    go_wp2_with (go_at_call 131;refine hL.mono ?_;rintro e w' ⟨rfl,rfl⟩)
    go_ret2
    exact⟨rfl,rfl⟩
   ·have hg:8*n - (s:Int)<at_:=by omega
    clear h2
    go_enter func108,ntmps108
    go_wp2_with (go_at_call 131;refine hL.mono ?_;rintro e w' ⟨rfl,rfl⟩)
    go_ret2
    exact⟨rfl,rfl⟩
theorem aat (x k:Nat):bits .and .u8 ((x:Int) / 2 ^ k % 256) 1=((x.testBit k).toNat:Int):=by
 have e:(x:Int) / 2 ^ k=((x >>> k:Nat):Int):=by rw[Nat.shiftRight_eq_div_pow];simp
 have h:=u8_and_nat (x >>> k % 256) 1 (Nat.mod_lt _ (by omega)) (by omega)
 rw[nat_mask1,Nat.mod_mod_of_dvd _ (by decide),vw]at h
 rw[e,← h];rfl
theorem rr (n at_ x:Nat) (w:World) (hx:x<4294967296) (hx0:x≠0) (hn:n≤65536) (hfit:at_+PM.bl x≤8*n) :
  Calls prog 108 #[.int .i64 n,.int .i64 at_,.int .u32 x] w fun e w'=>∃ v,e=.returned (.tuple #[v,.int .i64 0])∧Hid (Below w.heap.size w w'∧zE w.heap.size w' n at_ x v):=by
 obtain⟨i0,hi,hz0,hz1,hz2⟩:=info_parts bY
 have hL:=kJ x w hx
 have hbl:=PM.bl_le (n:=x) (k:=32) (by omega)
 have hbit:=fun k=>aat x k
 have hpos:0<PM.bl x:=by rw[PM.bl_pos hx0];omega
 have hxn:((x:Int) == 0)=false:=by simp;omega
 have hd1:decide ((8:Int) * (n:Int) - (PM.bl x:Int) < (at_:Int))=false:=by simp;omega
 unfold zE
 generalize PM.bl x=s at *
 go_enter func108,ntmps108
 go_wp2_with (first | (go_at_call 131;refine hL.mono ?_;rintro e w ⟨rfl,rfl⟩) | (at_make;refine aZ _ rfl (.tmp 35) (.tmp 35) 22 rfl w.heap.size 5 i0 underlying22 hi hz0 hz1 hz2 _ _ _ _ n n rfl rfl rfl rfl (Nat.le_refl _) (by omega) (Nat.le_refl _) ?_))
 intro w1 hown1 hbel1
 clear hL
 go_wp2_with fail
 go_loopw [10,11,12,38] (fun _ _ _ c wr=>∃ i f,i≤s∧c=.int .i64 ((i:Nat):Int)∧wr.ownsRow w.heap.size 5 1 (.slice (some ⟨w.heap.size,0,none⟩) n n) n (CB f n)∧(∀ i,i<n→f i<256)∧(∀ k,PM.fb f k=PM.ly at_ s x i k)∧Below w.heap.size w wr) (fun _ _ _ c _=>s - (intOf c).toNat)
 case atStart=>exact⟨0,fun _=>0,by omega,rfl,hown1,fun i _=>by show 0<256;omega,fun k=>by rw[PM.ly_zero];unfold PM.fb;exact Nat.zero_testBit _,hbel1⟩
 case round=>
  clear hown1 hbel1
  obtain⟨i,f,hi2,rfl,hown,hfb,hfV,hbel⟩:=hrel
  by_cases hlt:i<s
  ·have t1:=hbit (s-1-i)
   clear hbit
   obtain⟨k,hk⟩:∃ k,k=at_+i:=⟨_,rfl⟩
   have hk1:(at_:Int) + (i:Int)=(k:Int):=by omega
   obtain⟨q,hq⟩:∃ q,q=k / 8:=⟨_,rfl⟩
   obtain⟨m,hm⟩:∃ m,m=k % 8:=⟨_,rfl⟩
   have hq1:(k:Int) / 8=(q:Int):=by omega
   have hm1:(k:Int) % 8=(m:Int):=by omega
   have hq2:(k:Int).tdiv 8=(q:Int):=by rw[Int.tdiv_eq_ediv_of_nonneg (by omega)];exact hq1
   have hm2:(k:Int).tmod 8=(m:Int):=by rw[Int.tmod_eq_emod_of_nonneg (by omega)];exact hm1
   have hql:q<n:=by omega
   have hm8:m<8:=by omega
   have hcx:=hown.cellAt q (by omega)
   rw[aR _ n _ hql]at hcx
   have hfx:=hown.frozenAt q
   have hfq:=hfb q hql
   have HV:Hid (∀ k,PM.fb f k=PM.ly at_ s x i k):=hfV
   have HO:Hid (_):=And.intro hown (And.intro hfb hbel)
   clear hfV hown hfb hbel
   have HS:Hid (∀ j,PM.ly at_ s x (i+1) j=(PM.ly at_ s x i j || (decide (j=at_+i) && x.testBit (s-1-i)))):=fun j=>PM.ly_succ at_ s x i j
   generalize x.testBit (s-1-i)=bb at *
   obtain⟨y1,hy1⟩:∃ y,y=bb.toNat:=⟨_,rfl⟩
   have hy2:y1≤1:=by rw[hy1];exact Bool.toNat_le bb
   rw[← hy1]at t1
   obtain⟨d,hd⟩:∃ d,d=7-m:=⟨_,rfl⟩
   have hd7:(7:Int) - (m:Int)=(d:Int):=by omega
   have hdl:d≤7:=by omega
   obtain⟨z,hz⟩:∃ z,z=y1*2 ^ d:=⟨_,rfl⟩
   have hzl:z<256:=by
    have h1:2 ^ d≤2 ^ 7:=Nat.pow_le_pow_right (by omega) hdl
    have h2:=Nat.mul_le_mul hy2 h1
    rw[hz];omega
   have hsh:(y1:Int)*2 ^ d % 256=(z:Int):=by
    have e:(y1:Int)*2 ^ d=(z:Int):=by rw[hz];simp
    rw[e];omega
   have hor:=u8_or_nat (f q) z hfq hzl
   obtain⟨y,hy⟩:∃ y,y=f q ||| z:=⟨_,rfl⟩
   rw[← hy]at hor
   have hol:∀ j,(if j=q then y else f j)=PM.ol f k bb j:=fun j=>by
    unfold PM.ol;rw[hy,hz,hq,hd,hm,hy1]
   have HO2:Hid ((wr.drew.setCell ⟨w.heap.size,q,none⟩ (.int .u8 ((y:Nat):Int))).ownsRow w.heap.size 5 1 (.slice (some ⟨w.heap.size,0,none⟩) n n) n (CB (PM.ol f k bb) n)∧(∀ i,i<n→PM.ol f k bb i<256)∧(∀ j,PM.fb (PM.ol f k bb) j=PM.ly at_ s x (i+1) j)∧Below w.heap.size w (wr.drew.setCell ⟨w.heap.size,q,none⟩ (.int .u8 ((y:Nat):Int)))):=by
    refine⟨?_,PM.ol_lt HO.out.2.1 k bb (by omega),fun j=>?_,HO.out.2.2.drew.setCell (p:=⟨w.heap.size,q,none⟩) (Nat.le_refl _) _⟩
    ·have h:=((show wr.drew.ownsRow w.heap.size 5 1 (.slice (some ⟨w.heap.size,0,none⟩) n n) n (CB f n) from HO.out.1).stored q (.int .u8 ((y:Nat):Int))).1
     rw[fi,dw _ (PM.ol f k bb) n (fun i _=>hol i)]at h
     exact h
    ·rw[PM.ol_fb,HV.out,HS.out,hk]
   clear hk hq hm hy1 hd hz hol HV HO HS hy hy2
   generalize f q=g at *
   go_wp2_with fail
   go_region
   all_goals (go_wp2_with fail;go_roundw)
   case rel=>exact⟨i+1,PM.ol f k bb,by omega,by go_num,HO2.out.1,HO2.out.2.1,HO2.out.2.2.1,HO2.out.2.2.2⟩
   case measure=>simp[intOf] <;> omega
  ·obtain rfl:i=s:=by omega
   have HO:Hid (_):=And.intro hbel (And.intro hown (And.intro hfb hfV))
   clear hbit hown hfb hfV hbel
   go_wp2
   go_ret2
   exact⟨_,rfl,HO.out.1,f,HO.out.2.1,HO.out.2.2.1,fun k _=>HO.out.2.2.2 k⟩
def xr (f g:Nat→Nat) (i:Nat):Nat:=f i ^^^ g i
theorem wW {f g:Nat→Nat} {n:Nat} (hf:∀ i,i<n→f i<256) (hg:∀ i,i<n→g i<256):∀ i,i<n→xr f g i<256:=fun i hi=>PM.xor_lt8 (hf i hi) (hg i hi)
theorem rg (a0 a1:Option Addr) (n c0 c1:Nat) (f g:Nat→Nat) (w:World) (r0:Row8 w a0 n c0 f) (r1:Row8 w a1 n c1 g) (hn:n≤1000000) :
  Calls prog 109 #[.slice a0 n c0,.slice a1 n c1] w fun e w'=>∃ c,e=.returned (.tuple #[.slice (some ⟨w.heap.size,0,none⟩) n c,.int .i64 0])∧Hid (Below w.heap.size w w'∧w'.ownsRow w.heap.size 5 1 (.slice (some ⟨w.heap.size,0,none⟩) n c) n (CB (xr f g) n)):=by
 obtain⟨i0,hi,hz0,hz1,hz2⟩:=info_parts bY
 have hne:((n:Int) != (n:Int))=false:=by simp
 go_enter func109,ntmps109
 go_wp2_with (at_make;refine aZ _ rfl (.tmp 15) (.tmp 15) 22 rfl w.heap.size 5 i0 underlying22 hi hz0 hz1 hz2 _ _ _ _ n n rfl rfl rfl rfl (Nat.le_refl _) (by omega) (Nat.le_refl _) ?_)
 intro w1 hown1 hbel1
 go_wp2_with fail
 go_loopw [7,8,19] (fun _ _ c wr=>∃ i h,i≤n∧c=.int .i64 ((i:Nat):Int)∧wr.ownsRow w.heap.size 5 1 (.slice (some ⟨w.heap.size,0,none⟩) n n) n (CB h n)∧(∀ j,j<i→h j=xr f g j)∧Below w.heap.size w wr) (fun _ _ c _=>n - (intOf c).toNat)
 case atStart=>exact⟨0,fun _=>0,by omega,rfl,hown1,fun j hj=>by omega,hbel1⟩
 case round=>
  clear hown1 hbel1
  obtain⟨i,h,hi2,rfl,hown,hh,hbel⟩:=hrel
  by_cases hlt:i<n
  ·obtain⟨b0,o0,rfl,hb0,q0⟩:=r0.plain (by omega)
   obtain⟨b1,o1,rfl,hb1,q1⟩:=r1.plain (by omega)
   obtain⟨l0,s0⟩:=q0 i hlt
   obtain⟨l1,s1⟩:=q1 i hlt
   have d0:=(hbel.cell (p:=⟨b0,o0+i,none⟩) hb0).trans s0
   have d1:=(hbel.cell (p:=⟨b1,o1+i,none⟩) hb1).trans s1
   have hcx:=hown.cellAt i (by omega)
   rw[aR _ n _ hlt]at hcx
   have hfx:=hown.frozenAt i
   have hX:=u8_xor_nat (f i) (g i) l0 l1
   have HO:Hid ((wr.setCell ⟨w.heap.size,i,none⟩ (.int .u8 ((f i ^^^ g i:Nat):Int))).ownsRow w.heap.size 5 1 (.slice (some ⟨w.heap.size,0,none⟩) n n) n (CB (fun j=>if j=i then f i ^^^ g i else h j) n)∧(∀ j,j<i+1→(if j=i then f i ^^^ g i else h j)=xr f g j)∧Below w.heap.size w (wr.setCell ⟨w.heap.size,i,none⟩ (.int .u8 ((f i ^^^ g i:Nat):Int)))):=by
    refine⟨?_,fun j hj=>?_,hbel.setCell (p:=⟨w.heap.size,i,none⟩) (Nat.le_refl _) _⟩
    ·have h:=(hown.stored i (.int .u8 ((f i ^^^ g i:Nat):Int))).1
     rw[fi]at h
     exact h
    ·by_cases e:j=i
     ·rw[if_pos e,e];rfl
     ·rw[if_neg e];exact hh j (by omega)
   clear hown hh hbel r0 r1 q0 q1 s0 s1
   generalize f i ^^^ g i=y at *
   generalize f i=x0 at *
   generalize g i=x1 at *
   go_wp2
   go_roundw
   case rel=>exact⟨i+1,_,by omega,by go_num,HO.out.1,HO.out.2.1,HO.out.2.2⟩
   case measure=>simp[intOf] <;> omega
  ·obtain rfl:i=n:=by omega
   have HO:Hid (Below w.heap.size w wr∧wr.ownsRow w.heap.size 5 1 (.slice (some ⟨w.heap.size,0,none⟩) i i) i (CB (xr f g) i)):=⟨hbel,by rw[← dw h (xr f g) i hh];exact hown⟩
   clear hown hh hbel r0 r1
   go_wp2
   go_ret2
   exact⟨i,rfl,HO⟩
theorem lV (w:World) (c:Nat) (cs:Array Value) (t:TypeId) (fr:Nat × Nat) (h:w.heap[c]?=some (.cells cs t fr)):w.shape? c=some (t,cs.size):=by
 simp[World.shape?,h]
theorem uf (w:World):(convert 145 143 (.pointer none)).run prog w=.ok (.pointer none) w:=by kernel_rfl
theorem sh (w:World):(convert 143 145 (.pointer none)).run prog w=.ok (.pointer none) w:=by kernel_rfl
theorem nu (c:Nat) (v:Value) (w:World) (hc:w.heap[c]?=some (.cells #[v] 2 (0,0))):(convert 145 143 (.pointer (some ⟨c,0,none⟩))).run prog w=.ok (.pointer (some ⟨c,0,none⟩)) w:=
 Lib.run_from_unsafe (u:=2) (j:=(prog.info? 2).get!) w ⟨c,0,none⟩ (by kernel_rfl) (by kernel_rfl) (by kernel_rfl) (lV w c _ _ _ hc) (by kernel_rfl)
theorem oO (c:Nat) (v:Value) (w:World) (hc:w.heap[c]?=some (.cells #[v] 2 (0,0))):(convert 143 145 (.pointer (some ⟨c,0,none⟩))).run prog w=.ok (.pointer (some ⟨c,0,none⟩)) w:=
 run_convert_to_unsafe (t:=2) (by kernel_rfl) (by kernel_rfl) (by kernel_rfl) (ae w c 0 _ _ _ hc)
theorem mI (t:Int) (b:Nat) (r:Option Addr) (f o v:Int) (w:World) (h:Met w b t none f o r) :
  Calls prog 119 #[.pointer (some ⟨b,0,none⟩),.int .i64 v] w fun e w'=>e=.returned (.bool true)∧∃ n,w'=((w.alloc (.cells #[.int .i64 v] 2)).drewN n).setCell ⟨b,1,none⟩ (.pointer (some ⟨w.heap.size,0,none⟩)):=by
 have h1:Met (w.alloc (.cells #[.int .i64 v] 2)) b t none f o r:=h.off (Off.alloc [] w _) (by simp)
 have hl:=iO _ _ _ h1.c1 (uf _)
 have hc:∀ n,_:=fun n=>nc ⟨b,1,none⟩ none (some ⟨w.heap.size,0,none⟩) ((w.alloc (.cells #[.int .i64 v] 2)).drewN n) h1.c1 (h1.fz 1) (sh _) (oO w.heap.size (.int .i64 v) _ (aE w _))
 clear h1 h
 go_enter func119,ntmps119
 go_wp2_with fail
 refine wp_loop_once ?_
 go_wp2_with (go_at_call 145;refine hl.mono ?_;rintro e w' ⟨rfl,rfl⟩)
 go_quiet (fail)
 go_wp2_with (go_at_call 146;refine (hc nq).mono ?_;rintro e w' ⟨rfl,rfl⟩)
 go_ret
 exact⟨rfl,_,rfl⟩
theorem tV (t:Int) (b c:Nat) (r:Option Addr) (f o x v:Int) (w:World) (h:Met w b t (some ⟨c,0,none⟩) f o r) (hc:w.heap[c]?=some (.cells #[.int .i64 x] 2 (0,0))) (hlt:x<v) :
  Calls prog 119 #[.pointer (some ⟨b,0,none⟩),.int .i64 v] w fun e w'=>e=.returned (.bool true)∧∃ n,w'=((w.alloc (.cells #[.int .i64 v] 2)).drewN n).setCell ⟨b,1,none⟩ (.pointer (some ⟨w.heap.size,0,none⟩)):=by
 have h1:Met (w.alloc (.cells #[.int .i64 v] 2)) b t (some ⟨c,0,none⟩) f o r:=h.off (Off.alloc [] w _) (by simp)
 have hc1:(w.alloc (.cells #[.int .i64 v] 2)).heap[c]?=some (.cells #[.int .i64 x] 2 (0,0)):=(heap_alloc_old w _ (Array.getElem?_eq_some_iff.1 hc).1).trans hc
 have hl:=iO _ _ _ h1.c1 (nu c _ _ hc1)
 have hcs:∀ n,_:=fun n=>nc ⟨b,1,none⟩ (some ⟨c,0,none⟩) (some ⟨w.heap.size,0,none⟩) ((w.alloc (.cells #[.int .i64 v] 2)).drewN n) h1.c1 (h1.fz 1) (oO c _ _ hc1) (oO w.heap.size (.int .i64 v) _ (aE w _))
 have hcell:=ae _ c 0 _ _ _ hc1
 simp at hcell
 have hle:¬ v≤x:=by omega
 clear h1 h hc hc1
 go_enter func119,ntmps119
 go_wp2_with fail
 refine wp_loop_once ?_
 go_wp2_with (go_at_call 145;refine hl.mono ?_;rintro e w' ⟨rfl,rfl⟩)
 go_quiet (fail)
 go_wp2_with (go_at_call 146;refine (hcs nq).mono ?_;rintro e w' ⟨rfl,rfl⟩)
 go_ret
 exact⟨rfl,_,rfl⟩
theorem tW (t:Int) (b c:Nat) (r:Option Addr) (f o x v:Int) (w:World) (h:Met w b t (some ⟨c,0,none⟩) f o r) (hc:w.heap[c]?=some (.cells #[.int .i64 x] 2 (0,0))) (hle:v≤x) :
  Calls prog 119 #[.pointer (some ⟨b,0,none⟩),.int .i64 v] w fun e w'=>e=.returned (.bool false)∧∃ n,w'=(w.alloc (.cells #[.int .i64 v] 2)).drewN n:=by
 have h1:Met (w.alloc (.cells #[.int .i64 v] 2)) b t (some ⟨c,0,none⟩) f o r:=h.off (Off.alloc [] w _) (by simp)
 have hc1:(w.alloc (.cells #[.int .i64 v] 2)).heap[c]?=some (.cells #[.int .i64 x] 2 (0,0)):=(heap_alloc_old w _ (Array.getElem?_eq_some_iff.1 hc).1).trans hc
 have hl:=iO _ _ _ h1.c1 (nu c _ _ hc1)
 have hcell:=ae _ c 0 _ _ _ hc1
 simp at hcell
 clear h1 h hc hc1
 go_enter func119,ntmps119
 go_wp2_with fail
 refine wp_loop_once ?_
 go_wp2_with (go_at_call 145;refine hl.mono ?_;rintro e w' ⟨rfl,rfl⟩)
 go_quiet (fail)
 go_wp2_with fail
 go_ret
 exact⟨rfl,_,rfl⟩
open Go.RowKit Go.Maps
abbrev fX:=Nat × (Nat→Nat)
def fO (L:List fX):Nat:=L.foldl (fun n f=>n+f.1) 0
def oC (L:List fX):Option Int:=L.foldl (fun q f=>if q.all (fun x=>decide (x < (f.1:Int))) then some (f.1:Int) else q) none
theorem tP (L:List fX) (f:fX):fO (L ++ [f])=fO L+f.1:=by simp[fO]
theorem vU (L:List fX) (f:fX):oC (L ++ [f])=if (oC L).all (fun x=>decide (x < (f.1:Int))) then some (f.1:Int) else oC L:=by unfold oC;rw[List.foldl_append];rfl
theorem wH {L:List fX} (h:∀ f,f ∈ L→f.1≤27):fO L≤27*L.length:=by
 have key:∀ (M:List fX) (n:Nat),(∀ f,f ∈ M→f.1≤27)→M.foldl (fun n f=>n+f.1) n≤n+27*M.length:=by
  intro M
  induction M with
  | nil=>intro n _;simp
  | cons f M ih=>
   intro n hM
   have h1:=hM f (List.mem_cons_self ..)
   have h2:=ih (n+f.1) (fun g hg=>hM g (List.mem_cons_of_mem _ hg))
   simp only[List.foldl_cons,List.length_cons]
   omega
 have:=key L 0 h
 unfold fO
 omega
theorem gi {w w':World} {B e s n:Nat} {v:Value} {xs:List Value} (h:w.ownsRow B e s v n xs) (hk:∀ g,v.ownBlock=some g→w'.heap[g]?=w.heap[g]?):w'.ownsRow B e s v n xs:=by
 obtain⟨h0,h1 | ⟨g,cap,cur,rfl,hg,hgg,rest⟩⟩:=h
 ·exact⟨h0,.inl h1⟩
 ·exact⟨h0,.inr ⟨g,cap,cur,rfl,hg,(hk g rfl).trans hgg,rest⟩⟩
theorem aQ {w:World} {B e s n:Nat} {v:Value} {xs:List Value} (h:w.ownsRow B e s v n xs) {g:Nat} (hg:v.ownBlock=some g):∃ c,w.heap[g]?=some (.cells c e (0,0)):=by
 obtain⟨h0,⟨rfl,_⟩ | ⟨g',cap,cur,rfl,_,hgg,rest⟩⟩:=h
 ·cases hg
 ·simp only[Value.ownBlock,Option.some.injEq]at hg
  subst hg
  exact⟨cur,hgg⟩
theorem lw {w:World} {B e size n:Nat} {v:Value} {xs:List Value} (h:w.ownsRow B e size v (n+1) xs):∃ g cap,v=.slice (some ⟨g,0,none⟩) (n+1) cap∧B≤g∧g<w.heap.size:=by
 rcases h.2 with ⟨_,hn⟩ | ⟨g,cap,cur,rfl,hg,hgg,rest⟩
 ·omega
 ·exact⟨g,cap,rfl,hg,(Array.getElem?_eq_some_iff.1 hgg).1⟩
theorem cN {w:World} {B e s n:Nat} {v:Value} {xs:List Value} (h:w.ownsRow B e s v n xs):∃ a cap,v=.slice a n cap:=by
 obtain⟨h0,⟨rfl,rfl⟩ | ⟨g',cap,cur,rfl,rest⟩⟩:=h
 ·exact⟨_,_,rfl⟩
 ·exact⟨_,_,rfl⟩
theorem d9 {w:World} {k j:Nat} {c c':Array Value} {e e':TypeId} {f f':Nat × Nat} (h:w.heap[k]?=some (.cells c e f)) (h':w.heap[j]?=some (.cells c' e' f')) (ne:e≠e'):k≠j:=by
 rintro rfl
 rw[h]at h'
 simp only[Option.some.injEq,Obj.cells.injEq]at h'
 exact ne h'.2.1
structure Fl (B:Nat) (w:World) (v:Value) (vs:List Value) (L:List fX):Prop where
 rows:w.ownsRow B 22 1 v L.length vs
 frs:∀ (i:Nat) (f:fX),L[i]?=some f→∃ x,vs[i]?=some x∧w.ownsRow B 5 1 x f.1 (CB f.2 f.1)
 small:∀ (f:fX),f ∈ L→f.1≤27∧∀ i,i<f.1→f.2 i<256
 len:L.length≤4096
theorem Fl.keep {B:Nat} {w w':World} {v:Value} {vs:List Value} {L:List fX} (h:Fl B w v vs L) {l:List Nat} (k:Off l w w') (hl:∀ x,x ∈ l→x<w.heap.size→v.ownBlock≠some x∧∀ c f,w.heap[x]? ≠ some (.cells c 5 f)):Fl B w' v vs L:=by
 have kk:∀ {e:TypeId} {s n:Nat} {x:Value} {xs:List Value},w.ownsRow B e s x n xs→(∀ g,x.ownBlock=some g→g ∉ l)→w'.ownsRow B e s x n xs:=by
  intro e s n x xs ho hg
  refine gi ho fun g eg=>?_
  obtain⟨c,hc⟩:=aQ ho eg
  exact k.block g (Array.getElem?_eq_some_iff.1 hc).1 (hg g eg)
 refine⟨kk h.rows fun g eg hm=>?_,fun i f hi=>?_,h.small,h.len⟩
 ·obtain⟨c,hc⟩:=aQ h.rows eg
  exact (hl g hm (Array.getElem?_eq_some_iff.1 hc).1).1 eg
 ·obtain⟨x,hx,ho⟩:=h.frs i f hi
  refine⟨x,hx,kk ho fun g eg hm=>?_⟩
  obtain⟨c,hc⟩:=aQ ho eg
  exact (hl g hm (Array.getElem?_eq_some_iff.1 hc).1).2 _ _ hc
theorem Fl.below {B:Nat} {w w':World} {v:Value} {vs:List Value} {L:List fX} (h:Fl B w v vs L) (k:Below w.heap.size w w'):Fl B w' v vs L:=h.keep (l:=[]) (Off.of_below k) (fun x hx=>by cases hx)
theorem Fl.more {B:Nat} {w wx wy:World} {v v':Value} {vs:List Value} {L:List fX} {x:Value} {n:Nat} {bs:Nat→Nat} (h:Fl B w v vs L) (hx:Below w.heap.size w wx) (ho:wx.ownsRow B 5 1 x n (CB bs n)) (h27:n≤27) (hb:∀ i,i<n→bs i<256) (hn:L.length<4096)
  (hr:wy.ownsRow B 22 1 v' (L.length+1) (vs ++ [x])) (hg:wx.grownBy wy v.ownBlock):Fl B wy v' (vs ++ [x]) (L ++ [(n,bs)]):=by
 have hvl:vs.length=L.length:=by have:=h.rows.1;omega
 have kk:∀ {n:Nat} {y:Value} {xs:List Value},wx.ownsRow B 5 1 y n xs→wy.ownsRow B 5 1 y n xs:=by
  intro n y xs hy
  refine gi hy fun g eg=>?_
  obtain⟨c,hc⟩:=aQ hy eg
  refine hg.block g (Array.getElem?_eq_some_iff.1 hc).1 fun e=>?_
  obtain⟨c',hc'⟩:=aQ (h.below hx).rows e.symm
  exact d9 hc hc' (by decide) rfl
 refine⟨by simpa using hr,fun i f hi=>?_,fun f hf=>?_,by simp;omega⟩
 ·by_cases hlt:i<L.length
  ·rw[List.getElem?_append_left hlt]at hi
   obtain⟨y,hy,hoy⟩:=(h.below hx).frs i f hi
   exact⟨y,by rw[List.getElem?_append_left (by omega)];exact hy,kk hoy⟩
  ·have hi':=(List.getElem?_eq_some_iff.1 hi).1
   simp only[List.length_append,List.length_cons,List.length_nil]at hi'
   obtain rfl:i=L.length:=by omega
   simp only[List.getElem?_append_right (Nat.le_refl _),Nat.sub_self,List.getElem?_cons_zero,Option.some.injEq]at hi
   subst hi
   refine⟨x,?_,kk ho⟩
   rw[← hvl,List.getElem?_append_right (Nat.le_refl _),Nat.sub_self]
   rfl
 ·rcases List.mem_append.1 hf with hf | hf
  ·exact h.small f hf
  ·simp only[List.mem_singleton]at hf
   subst hf
   exact⟨h27,hb⟩
theorem Fl.at_ {B:Nat} {w:World} {v:Value} {vs:List Value} {L:List fX} (h:Fl B w v vs L) {i:Nat} {f:fX} (hi:L[i]?=some f):∃ a cap,vs[i]?=some (.slice a f.1 cap)∧Row8 w a f.1 cap f.2:=by
 obtain⟨x,hx,ho⟩:=h.frs i f hi
 have hm:f ∈ L:=List.mem_of_getElem? hi
 obtain⟨a,cap,rfl,R⟩:=aX ho (h.small f hm).2
 exact⟨a,cap,hx,R⟩
structure Bg (B:Nat) (w:World) (b m:Nat) (v:Value) (vs:List Value) (p:Option Addr) (L:List fX):Prop where
 at_:w.heap[b]?=some (.cells #[v,.pointer (some ⟨m,0,none⟩)] 102 (0,0))
 fl:Fl B w v vs L
 met:Met w m (fO L:Nat) p 0 0 none
 pk:Pk 0 w p (oC L)
 bB:B≤b
 mB:B≤m
theorem Bg.lt {B:Nat} {w:World} {b m:Nat} {v:Value} {vs:List Value} {p:Option Addr} {L:List fX} (h:Bg B w b m v vs p L):b<w.heap.size:=(Array.getElem?_eq_some_iff.1 h.at_).1
theorem Bg.off {B:Nat} {w w':World} {b m:Nat} {v:Value} {vs:List Value} {p:Option Addr} {L:List fX} (h:Bg B w b m v vs p L) {l:List Nat} (k:Off l w w') (hl:∀ x,x ∈ l→x<w.heap.size→x≠b∧x≠m∧v.ownBlock≠some x∧∀ c f,w.heap[x]? ≠ some (.cells c 5 f)∧w.heap[x]? ≠ some (.cells c 2 f)):Bg B w' b m v vs p L:=by
 refine⟨(k.block b h.lt fun hm=>(hl b hm h.lt).1 rfl).trans h.at_,h.fl.keep k fun x hx hs=>⟨(hl x hx hs).2.2.1,fun c f=>((hl x hx hs).2.2.2 c f).1⟩,h.met.off k fun hm=>(hl m hm h.met.lt).2.1 rfl,?_,h.bB,h.mB⟩
 have hp:=h.pk
 generalize oC L=q at hp
 cases hp with
 | none=>exact .none
 | some c v' h' hc=>exact .some c v' h' ((k.block c (Array.getElem?_eq_some_iff.1 hc).1 fun hm=>((hl c hm (Array.getElem?_eq_some_iff.1 hc).1).2.2.2 _ _).2 hc).trans hc)
theorem Bg.below {B:Nat} {w w':World} {b m:Nat} {v:Value} {vs:List Value} {p:Option Addr} {L:List fX} (h:Bg B w b m v vs p L) (k:Below w.heap.size w w'):Bg B w' b m v vs p L:=h.off (l:=[]) (Off.of_below k) (fun x hx=>by cases hx)
theorem Bg.c0 {B:Nat} {w:World} {b m:Nat} {v:Value} {vs:List Value} {p:Option Addr} {L:List fX} (h:Bg B w b m v vs p L):w.cell? ⟨b,0,none⟩=some v:=ae w b 0 _ _ _ h.at_
theorem Bg.c1 {B:Nat} {w:World} {b m:Nat} {v:Value} {vs:List Value} {p:Option Addr} {L:List fX} (h:Bg B w b m v vs p L):w.cell? ⟨b,1,none⟩=some (.pointer (some ⟨m,0,none⟩)):=ae w b 1 _ _ _ h.at_
theorem uw (w:World) :
  Calls prog 26 #[] w fun e w'=>e=.returned (.pointer (some ⟨w.heap.size+1,0,none⟩))∧Hid (Below w.heap.size w w'∧Bg w.heap.size w' (w.heap.size+1) w.heap.size (.slice none 0 0) [] none []∧w'.heap.size=w.heap.size+2):=by
 have hN:=lK w
 go_enter func26,ntmps26
 go_wp2_with (go_at_call 44;refine hN.mono ?_;rintro e w' ⟨rfl,rfl⟩)
 go_ret
 have hs:(w.alloc (.cells (t7 0 none 0 0 none) 156)).heap.size=w.heap.size+1:=World.size_alloc _ _
 refine⟨rfl,((Below.refl _ _).alloc (Nat.le_refl _) _).alloc (by rw[hs];omega) _,⟨?_,⟨⟨rfl,.inl ⟨rfl,rfl⟩⟩,fun i f hi=>by simp at hi,fun f hf=>by simp at hf,by simp⟩,?_,.none,by omega,Nat.le_refl _⟩,by rw[World.size_alloc,hs]⟩
 ·have:=aE (w.alloc (.cells (t7 0 none 0 0 none) 156)) (.cells #[.slice none 0 0,.pointer (some ⟨w.heap.size,0,none⟩)] 102)
  rw[hs]at this
  exact this
 ·exact (lO w).off (Off.alloc [] _ _) (by simp)
theorem vk (w:World):(Instr.buildSlice 22 0 #[]).run prog w=.ok (.slice (some ⟨w.heap.size,0,none⟩) 0 0) (w.alloc (.cells #[] 5)):=by kernel_rfl
theorem yI (B:Nat) (bs:Nat→Nat) (w:World) (h:B≤w.heap.size):(w.alloc (.cells #[] 5)).ownsRow B 5 1 (.slice (some ⟨w.heap.size,0,none⟩) 0 0) 0 (CB bs 0):=World.ownsRow_made w #[] 0 h (Nat.zero_le _) rfl
theorem iM (a:Option Addr) (n cap:Nat) (bs:Nat→Nat) (w:World) (R:Row8 w a n cap bs) (hn:n≤140737488351232) :
  Calls prog 31 #[.slice a n cap] w fun e w'=>∃ a' cap',e=.returned (.slice a' n cap')∧Hid (Below w.heap.size w w'∧w'.ownsRow w.heap.size 5 1 (.slice a' n cap') n (CB bs n)):=by
 cases a with
 | none=>
  obtain⟨rfl,rfl⟩:=R.nil rfl
  have he:∀ w:World,(binOp .eql 22 (.slice none 0 0) (.slice none 0 0)).run prog w=.ok (.bool true) w:=fun _=>rfl
  go_enter func31,ntmps31
  go_wp2_with fail
  go_ret
  exact⟨_,_,rfl,Below.refl _ _,⟨rfl,.inl ⟨rfl,rfl⟩⟩⟩
 | some x=>
  obtain⟨i0,hi,hz0,hz1,hz2⟩:=info_parts bY
  have hbd:=vk
  have he:∀ w:World,(binOp .eql 22 (.slice (some x) n cap) (.slice none 0 0)).run prog w=.ok (.bool false) w:=fun _=>rfl
  have hbelA:Below w.heap.size w (w.alloc (.cells #[] 5)):=(Below.refl _ _).alloc (Nat.le_refl _) _
  have R0:=R.below hbelA
  have O0:=yI w.heap.size bs w (Nat.le_refl _)
  have hszA:=hbelA.size
  have hby:=R.byte
  go_enter func31,ntmps31
  go_wp2_with (at_builtin;refine aT rfl (.tmp 5) (.tmp 6) 22 rfl w.heap.size 5 i0 (.int .u8 0) underlying22 hi hz0 hz1 hz2 rfl _ 0 _ rfl O0 (some x) n cap bs rfl R0 (by unfold maxLen;omega) (by omega) hszA ?_)
  intro v2 w2 hown2 hgrow2
  have hbel2:Below w.heap.size w w2:=hbelA.grown hgrow2 hszA (fun k hk=>(O0.lt k hk).1)
  replace hown2:w2.ownsRow w.heap.size 5 1 v2 n (CB bs n):=by simpa [CB] using hown2
  obtain⟨a2,k2,rfl,_⟩:=aX hown2 hby
  have H:Hid (Below w.heap.size w w2∧w2.ownsRow w.heap.size 5 1 (.slice a2 n k2) n (CB bs n)):=⟨hbel2,hown2⟩
  clear hown2 hbel2 hgrow2 O0 R0 R hbelA hby
  go_wp2_with fail
  go_ret
  exact⟨_,_,rfl,H.out⟩
theorem iC (B:Nat) (b m:Nat) (v:Value) (vs:List Value) (p:Option Addr) (L:List fX) (i:Nat) (f:fX) (w:World) (h:Bg B w b m v vs p L) (hi:L[i]?=some f) :
  Calls prog 86 #[.pointer (some ⟨b,0,none⟩),.int .i64 (i:Nat)] w fun e w'=>∃ a' cap',e=.returned (.tuple #[.slice a' f.1 cap',.int .i64 0])∧Hid (Below w.heap.size w w'∧w'.ownsRow w.heap.size 5 1 (.slice a' f.1 cap') f.1 (CB f.2 f.1)):=by
 have hlt:=(List.getElem?_eq_some_iff.1 hi).1
 have hlen:=h.fl.len
 obtain⟨a,cap,hv,R⟩:=h.fl.at_ hi
 have h27:=(h.fl.small f (List.mem_of_getElem? hi)).1
 have c0:=h.c0
 have hr:=h.fl.rows
 obtain⟨n,en⟩:∃ n,n=L.length:=⟨_,rfl⟩
 rw[← en]at hlt hlen hr
 cases n with
 | zero=>omega
 | succ n=>
  obtain⟨g,capv,rfl,_,_⟩:=lw hr
  have cv:w.cell? ⟨g,i,none⟩=some (.slice a f.1 cap):=(hr.cellAt i (by omega)).trans hv
  have hC:=iM a f.1 cap f.2 w R (by omega)
  have h0:¬ ((i:Int)<0):=by omega
  have h1:¬ (((n+1:Nat):Int) ≤ (i:Int)):=by omega
  clear h hr hv R hi
  go_enter func86,ntmps86
  go_wp2_with (go_at_call 31;refine hC.mono ?_;rintro e w' ⟨a',cap',rfl,H⟩)
  go_ret2
  exact⟨_,_,rfl,H⟩
theorem mH (B:Nat) (b m:Nat) (v:Value) (vs:List Value) (p:Option Addr) (L:List fX) (i:Int) (w:World) (h:Bg B w b m v vs p L) (hi:i<0∨(L.length:Int)≤i) :
  Calls prog 86 #[.pointer (some ⟨b,0,none⟩),.int .i64 i] w fun e w'=>e=.returned (.tuple #[.slice none 0 0,.int .i64 151])∧w'=w:=by
 have c0:=h.c0
 obtain⟨a,cap,rfl⟩:=cN h.fl.rows
 generalize L.length=n at *
 clear h
 by_cases h0:i<0
 ·clear hi
  go_enter func86,ntmps86
  go_wp2_with fail
  go_ret2
  exact⟨rfl,rfl⟩
 ·have h1:(n:Int)≤i:=by omega
  clear hi
  go_enter func86,ntmps86
  go_wp2_with fail
  go_ret2
  exact⟨rfl,rfl⟩
theorem tj:(prog.info? 22).map (fun i=>(i.zero,i.size,i.bytes))=some (some (.slice none 0 0),1,24):=by kernel_rfl
theorem js {B:Nat} {w0 w:World} (h:Below B w0 w) (hs:B≤w0.heap.size) (o:Obj):Below B w0 (w.alloc o):=h.alloc (Nat.le_trans hs h.size) o
theorem fH {B:Nat} {w0 w:World} (h:Below B w0 w) (n:Nat):Below B w0 (w.drewN n):=⟨h.os,h.tape,h.output,h.size,h.block⟩
theorem rY {ops:Array Oper} {o:Oper} {a:Act} {w:World} {K:Act→World→Prop} {Q:Exit→Act→World→Prop} {E:Prop}
  (hg:o.guard=none) (s x:Operand) (hop:o.op=Op.call { callee:=Callee.builtin Builtin.append,args:=#[s,x],argTypes:=#[43,43] }) (hty:o.type=43)
  (B n g:Nat) (vs:List Value) (y v:Value) (hs:a.eval s=v) (hown:w.ownsRow B 22 1 v n vs) (hx:a.eval x=.slice (some ⟨g,0,none⟩) 1 1)
  (hgc:w.cell? ⟨g,0,none⟩=some y) (hy:y.oneCell'=true) (hn:n<1000000) (hB:B≤w.heap.size)
  (hK:∀ g' cap' w',Hid (w'.ownsRow B 22 1 (.slice (some ⟨g',0,none⟩) (n+1) cap') (n+1) (vs ++ [y])∧w.grownBy w' v.ownBlock∧(v.ownBlock=some g'∨g'=w.heap.size))→K (a.put o.dst (.slice (some ⟨g',0,none⟩) (n+1) cap')) w') :
  if Region.wanted o (yielded ops a.tmps)=true then Oper.wp prog o a w K Q else E:=by
 have hw:Region.wanted o (yielded ops a.tmps)=true:=by simp[Region.wanted,hg]
 rw[if_pos hw]
 obtain⟨i,hi,h0,h1,h2⟩:=info_parts tj
 obtain⟨v',w',hrun,h3,h4,_,h5⟩:=run_append_own_at w B 43 43 22 i _ 1 24 underlying43 hi h0 h1 h2 rfl (by decide) v n vs hown ⟨g,0,none⟩ 1 1 [y] rfl (by
  intro j u hj
  cases j with
  | zero=>simp at hj;subst hj;simpa [Addr.add] using hgc
  | succ j=>simp at hj) (by intro u hu;simp at hu;subst hu;exact hy) (by unfold maxLen;omega) (by omega) hB
 obtain⟨g',cap',rfl,_,_⟩:=lw h3
 unfold Oper.wp execOp
 simp only[hop,hty,resolve,invoke,builtin,Sem.run_bind,Sem.run_pure,Result.andThen_ok,List.map_toArray,List.map_cons,List.map_nil,hs,hx,hrun]
 refine hK g' cap' w' ⟨h3,h4,?_⟩
 rcases h5 with h5 | h5
 ·left;rw[← h5];rfl
 ·right;simpa [Value.ownBlock] using h5
theorem oQ {P:Program} {ops:Array Oper} {o:Oper} {a:Act} {w:World} {K:Act→World→Prop} {Q:Exit→Act→World→Prop} {E:Prop} {R:Value→World→Prop}
  (f:FuncId) (ts:Array Operand) (ty:Array TypeId) (_:o.op=.call { callee:=.value (.func f),args:=ts,argTypes:=ty }) (hw:Region.wanted o (yielded ops a.tmps)=true) (args:Array Value) (hrun:(execOp a.eval o).run P w=.ok (.enter f args) w) (hc:Calls P f args w fun e w'=>∃ v,e=.returned v∧R v w') (hK:∀ v w',R v w'→K (a.put o.dst v) w') :
  if Region.wanted o (yielded ops a.tmps)=true then Oper.wp P o a w K Q else E:=by
 rw[if_pos hw]
 unfold Oper.wp
 rw[hrun]
 refine hc.mono ?_
 rintro e w'' ⟨v,rfl,hr⟩
 exact hK _ _ hr
theorem Row8.offB {l:List Nat} {w w':World} {a:Option Addr} {len cap:Nat} {bs:Nat→Nat} (h:Row8 w a len cap bs) (q:Off l w w') (hl:∀ x,a=some x→x.block ∉ l):Row8 w' a len cap bs:=by
 refine⟨h.byte,h.nil,fun x hx i hi=>?_,h.le⟩
 have h1:=h.src x hx i hi
 have hlt:=World.block_lt_of_cell? w _ h1
 have hb:(x.add i).block=x.block:=by unfold Addr.add;split <;> rfl
 have he:w'.heap[(x.add i).block]?=w.heap[(x.add i).block]?:=q.block _ hlt (by rw[hb];exact hl x hx)
 rw[← h1]
 unfold World.cell?
 rw[he]
theorem Bg.put {B:Nat} {w w2 wx wa wy:World} {b m g cap:Nat} {v:Value} {vs:List Value} {p p':Option Addr} {L:List fX} {x:Value} {n:Nat} {bs:Nat→Nat} (h:Bg B w b m v vs p L)
  (o2:Off [m] w w2) (h2m:Met w2 m (fO (L ++ [(n,bs)]):Nat) p' 0 0 none) (h2p:Pk 0 w2 p' (oC (L ++ [(n,bs)])))
  (hx:Below w2.heap.size w2 wx) (ho:wx.ownsRow w2.heap.size 5 1 x n (CB bs n)) (h27:n≤27) (hb:∀ i,i<n→bs i<256) (hn:L.length<4096) (hBw:B≤w2.heap.size)
  (ha:Below wx.heap.size wx wa) (hr:wy.ownsRow B 22 1 (.slice (some ⟨g,0,none⟩) (L.length+1) cap) (L.length+1) (vs ++ [x])) (hg:wa.grownBy wy v.ownBlock) (hgb:v.ownBlock=some g∨g=wa.heap.size) :
  Off (b :: m :: v.ownBlock.toList) w (wy.setCell ⟨b,0,none⟩ (.slice (some ⟨g,0,none⟩) (L.length+1) cap)) ∧
  Bg B (wy.setCell ⟨b,0,none⟩ (.slice (some ⟨g,0,none⟩) (L.length+1) cap)) b m (.slice (some ⟨g,0,none⟩) (L.length+1) cap) (vs ++ [x]) p' (L ++ [(n,bs)])∧(v.ownBlock=some g∨w.heap.size≤g):=by
 have f2:Fl B w2 v vs L:=h.fl.keep o2 fun y hy hs=>by
  simp only[List.mem_singleton]at hy
  subst hy
  refine⟨fun e=>?_,fun c f hc=>?_⟩
  ·obtain⟨c,hc⟩:=aQ h.fl.rows e
   exact d9 h.met.at_ hc (by decide) rfl
  ·exact d9 h.met.at_ hc (by decide) rfl
 have hbm:b≠m:=d9 h.at_ h.met.at_ (by decide)
 have b2:w2.heap[b]?=_:=(o2.block b h.lt (by simpa using hbm)).trans h.at_
 have h2a:Below w2.heap.size w2 wa:=hx.trans (ha.mono hx.size)
 have f3:=f2.more h2a (dR (aP ho hBw) ha) h27 hb hn hr hg
 have rest:∀ (k:Nat) (c:Array Value) (e:TypeId) (f:Nat × Nat),w2.heap[k]?=some (.cells c e f)→e≠22→wy.heap[k]?=some (.cells c e f):=by
  intro k c e f hk he
  have hlt:=(Array.getElem?_eq_some_iff.1 hk).1
  have hka:wa.heap[k]?=_:=(h2a.block k hlt).trans hk
  refine (hg.block k (Nat.lt_of_lt_of_le hlt h2a.size) fun ek=>?_).trans hka
  obtain⟨c',hc'⟩:=aQ (f2.below h2a).rows ek.symm
  exact d9 hka hc' he rfl
 have by_:=rest b _ _ _ b2 (by decide)
 have o3:=Off.setCell b 0 wy (.slice (some ⟨g,0,none⟩) (L.length+1) cap)
 have my:Met wy m (fO (L ++ [(n,bs)]):Nat) p' 0 0 none:=⟨rest m _ _ _ h2m.at_ (by decide)⟩
 have py:Pk 0 wy p' (oC (L ++ [(n,bs)])):=by
  generalize oC (L ++ [(n,bs)])=q at h2p
  cases h2p with
  | none=>exact .none
  | some c v' h' hc=>exact .some c v' h' (rest c _ _ _ hc (by decide))
 have B0:Bg B (wy.setCell ⟨b,0,none⟩ (.slice (some ⟨g,0,none⟩) (L.length+1) cap)) b m (.slice (some ⟨g,0,none⟩) (L.length+1) cap) (vs ++ [x]) p' (L ++ [(n,bs)]):=by
  refine⟨heap_setCell_same _ _ _ _ _ _ by_,f3.keep o3 fun y hy hs=>?_,my.off o3 (by simpa using hbm.symm),?_,h.bB,h.mB⟩
  ·simp only[List.mem_singleton]at hy
   subst hy
   refine⟨fun e=>?_,fun c f hc=>?_⟩
   ·obtain⟨c,hc⟩:=aQ f3.rows e
    exact d9 by_ hc (by decide) rfl
   ·exact d9 by_ hc (by decide) rfl
  ·generalize oC (L ++ [(n,bs)])=q at py
   cases py with
   | none=>exact .none
   | some c v' h' hc=>exact .some c v' h' ((o3.block c (Array.getElem?_eq_some_iff.1 hc).1 (by simpa using d9 hc by_ (by decide))).trans hc)
 have o4:Off (b :: m :: v.ownBlock.toList) w wy:=by
  have q1:Off (b :: m :: v.ownBlock.toList) w2 wa:=Off.of_below h2a
  have q2:Off (b :: m :: v.ownBlock.toList) wa wy:=⟨hg.os,hg.tape,hg.output,hg.size,fun k hk hm=>hg.block k hk fun e=>hm (by rw[← e];simp)⟩
  exact ((o2.more (by simp)).trans q1).trans q2
 refine⟨o4.trans (o3.more (by simp)),B0,?_⟩
 rcases hgb with e | e
 ·exact .inl e
 ·right
  have:=o2.size
  have:=h2a.size
  omega
def Grb (B:Nat) (w':World) (n at_ x:Nat) (f:Nat→Nat) (v:Value):Prop:=
 ∃ g,w'.ownsRow B 5 1 v n (CB (xr f g) n)∧(∀ i,i<n→g i<256)∧∀ k,k<8*n→PM.fb g k=PM.ly at_ (PM.bl x) x (PM.bl x) k
theorem jD (B:Nat) (b m:Nat) (v:Value) (vs:List Value) (p:Option Addr) (L:List fX) (i:Nat) (f:fX) (at_ x:Nat) (w:World) (h:Bg B w b m v vs p L) (hi:L[i]?=some f) (hx:x<4294967296) (hx0:x≠0) (hfit:at_+PM.bl x≤8*f.1) :
  Calls prog 85 #[.pointer (some ⟨b,0,none⟩),.int .i64 (i:Nat),.int .i64 (at_:Nat),.int .u32 (x:Nat)] w fun e w'=>∃ g c,e=.returned (.tuple #[.slice (some ⟨g,0,none⟩) f.1 c,.int .i64 0])∧Hid (Below w.heap.size w w'∧Grb w.heap.size w' f.1 at_ x f.2 (.slice (some ⟨g,0,none⟩) f.1 c)∧w.heap.size≤g):=by
 have h27:=(h.fl.small f (List.mem_of_getElem? hi)).1
 have hby:=(h.fl.small f (List.mem_of_getElem? hi)).2
 have hG:=iC B b m v vs p L i f w h hi
 clear h hi
 go_enter func85,ntmps85
 go_wp2_with fail
 refine hG.mono ?_
 rintro e w1 ⟨a1,cap1,rfl,H1⟩
 have hM:=rr f.1 at_ x w1 hx hx0 (by omega) hfit
 clear hG
 go_wp2_with fail
 refine hM.mono ?_
 rintro e w2 ⟨v2,rfl,H2⟩
 obtain⟨b2,g,og,gb,gl⟩:=H2.out
 obtain⟨a2,cap2,rfl,R2⟩:=aX og gb
 have R1:Row8 w2 a1 f.1 cap1 f.2:=by
  obtain⟨a1',cap1',e1,R1⟩:=aX (dR H1.out.2 b2) hby
  simp only[Value.slice.injEq,true_and]at e1
  obtain⟨rfl,rfl⟩:=e1
  exact R1
 have hT:=rg a1 a2 f.1 cap1 cap2 f.2 g w2 R1 R2 (by omega)
 have HH:Hid (_):=And.intro gb (And.intro gl (And.intro H1.out.1 b2))
 clear hM H2 H1 og gb gl R1 R2 b2
 go_wp2_with fail
 refine hT.mono ?_
 rintro e w3 ⟨c3,rfl,H3⟩
 clear hT
 go_wp2_with fail
 go_ret2
 have s1:=HH.out.2.2.1.size
 have s2:=HH.out.2.2.2.size
 exact⟨_,_,rfl,HH.out.2.2.1.trans ((HH.out.2.2.2.trans (H3.out.1.mono s2)).mono s1),⟨g,aP H3.out.2 (Nat.le_trans s1 s2),HH.out.1,HH.out.2.1⟩,Nat.le_trans s1 s2⟩
theorem sc (B:Nat) (b m:Nat) (v:Value) (vs:List Value) (p:Option Addr) (L:List fX) (i:Nat) (f:fX) (at_:Int) (x:Nat) (w:World) (h:Bg B w b m v vs p L) (hi:L[i]?=some f) (hx:x<4294967296) (ha : -9223372036854775808≤at_∧at_<9223372036854775808) (he:cE f.1 at_ x≠0) :
  Calls prog 85 #[.pointer (some ⟨b,0,none⟩),.int .i64 (i:Nat),.int .i64 at_,.int .u32 (x:Nat)] w fun e w'=>e=.returned (.tuple #[.slice none 0 0,.int .i64 (cE f.1 at_ x)])∧Hid (Below w.heap.size w w'):=by
 have h27:=(h.fl.small f (List.mem_of_getElem? hi)).1
 have hG:=iC B b m v vs p L i f w h hi
 have hM:=fun w1=>tL f.1 at_ x w1 hx (by omega) ha he
 generalize cE f.1 at_ x=y at *
 clear h hi
 go_enter func85,ntmps85
 go_wp2_with fail
 refine hG.mono ?_
 rintro e w1 ⟨a1,cap1,rfl,H1⟩
 clear hG
 go_wp2_with fail
 refine (hM _).mono ?_
 rintro e w2 ⟨rfl,rfl⟩
 clear hM
 go_wp2_with fail
 go_ret2
 exact⟨rfl,H1.out.1⟩
theorem rZ (B:Nat) (b m:Nat) (v:Value) (vs:List Value) (p:Option Addr) (L:List fX) (i at_ x:Int) (w:World) (h:Bg B w b m v vs p L) (hi:i<0∨(L.length:Int)≤i) :
  Calls prog 85 #[.pointer (some ⟨b,0,none⟩),.int .i64 i,.int .i64 at_,.int .u32 x] w fun e w'=>e=.returned (.tuple #[.slice none 0 0,.int .i64 151])∧w'=w:=by
 have hG:=mH B b m v vs p L i w h hi
 clear h hi
 go_enter func85,ntmps85
 go_wp2_with fail
 refine hG.mono ?_
 rintro e w1 ⟨rfl,rfl⟩
 clear hG
 go_wp2_with fail
 go_ret2
 exact⟨rfl,rfl⟩
structure Dr where
 d:Nat
 m:Nat
 g:Nat
 n:Nat
 mx:Nat
 P:Pm
 s:Sd
structure Thing where
 U:List Nat
 T:World→Prop
 st:∀ w w' l,T w→Off l w w'→(∀ k,k ∈ U→k ∉ l)→T w'
def oz:Thing:=⟨[],fun _=>True,fun _ _ _ _ _ _=>trivial⟩
def ay (t:Nat→Thing) (i:Nat) (x:Thing):Nat→Thing:=fun j=>if j=i then x else t j
theorem ak (t:Nat→Thing) (i:Nat) (x:Thing):ay t i x i=x:=if_pos rfl
theorem an (t:Nat→Thing) {i j:Nat} (x:Thing) (h:j≠i):ay t i x j=t j:=if_neg h
structure Al (w0 w:World) (t:Nat→Thing):Prop where
 bel:Below w0.heap.size w0 w
 ok:∀ i,(t i).T w
 lt:∀ i k,k ∈ (t i).U→w0.heap.size≤k∧k<w.heap.size
 dis:∀ i j,i≠j→∀ k,k ∈ (t i).U→k ∉ (t j).U
section
variable {w0 w w':World} {t:Nat→Thing}
theorem Al.size (h:Al w0 w t):w0.heap.size≤w.heap.size:=h.bel.size
theorem Al.get (h:Al w0 w t) {i:Nat} {x:Thing} (e:t i=x):x.T w:=e ▸ h.ok i
theorem Al.turn (h:Al w0 w t) (i:Nat) (x:Thing) (o:Off (t i).U w w') (hx:x.T w') (hl:∀ k,k ∈ x.U→w0.heap.size≤k∧k<w'.heap.size) (hd:∀ k,k ∈ x.U→∀ j,j≠i→k ∉ (t j).U):Al w0 w' (ay t i x) where
 bel:=o.below h.bel (fun k hk=>(h.lt i k hk).1) h.bel.size
 ok:=fun j=>by
  by_cases e:j=i
  ·subst e;rw[ak];exact hx
  ·rw[an t x e];exact (t j).st w w' _ (h.ok j) o (h.dis j i e)
 lt:=fun j k hk=>by
  by_cases e:j=i
  ·subst e;rw[ak]at hk;exact hl k hk
  ·rw[an t x e]at hk;have:=h.lt j k hk;exact⟨this.1,Nat.lt_of_lt_of_le this.2 o.size⟩
 dis:=fun a b hab k ha hb=>by
  by_cases ea:a=i
  ·subst ea
   rw[ak]at ha
   rw[an t x (Ne.symm hab)]at hb
   exact hd k ha b (Ne.symm hab) hb
  ·by_cases eb:b=i
   ·subst eb
    rw[an t x ea]at ha
    rw[ak]at hb
    exact hd k hb a ea ha
   ·rw[an t x ea]at ha
    rw[an t x eb]at hb
    exact h.dis a b hab k ha hb
theorem Al.step (h:Al w0 w t) (i:Nat) (x:Thing) {U:List Nat} (hU:(t i).U=U) (g:Gr U w x.U w') (hx:x.T w') (hl:∀ k,k ∈ x.U→k<w'.heap.size):Al w0 w' (ay t i x):=by
 subst hU
 refine h.turn i x g.off hx (fun k hk=>⟨?_,hl k hk⟩) (fun k hk j hj hm=>?_)
 ·rcases g.new k hk with h1 | h1
  ·exact (h.lt i k h1).1
  ·exact Nat.le_trans h.bel.size h1
 ·exact g.out (h.lt j k hm).2 (h.dis j i hj k hm) hk
theorem Al.below (h:Al w0 w t) (b:Below w.heap.size w w'):Al w0 w' t:=
 ⟨h.bel.trans (b.mono h.bel.size),fun i=>(t i).st w w' [] (h.ok i) (Off.of_below b) (by simp),fun i k hk=>⟨(h.lt i k hk).1,Nat.lt_of_lt_of_le (h.lt i k hk).2 b.size⟩,h.dis⟩
theorem Al.drop (h:Al w0 w t) (i:Nat):Al w0 w (ay t i oz):=h.turn i oz (Off.refl _ _) trivial (fun k hk=>by simp[oz]at hk) (fun k hk=>by simp[oz]at hk)
end
end Go.Proofs.YtfgnmadnmjdbiaaGreat
namespace Go.Proofs.YtfgnmadnmjdbiaaGreat
open Tryz
open Go.RowKit Go.Maps
theorem rS (M:Nat) (t:Int) (b:Nat) (p r:Option Addr) (q:Option Int) (f o v:Int) (w:World) (h:Met w b t p f o r) (hp:Pk M w p q) (hM:M≤w.heap.size) :
  Calls prog 119 #[.pointer (some ⟨b,0,none⟩),.int .i64 v] w fun e w'=>e=.returned (.bool (q.all (fun x=>decide (x<v))))∧Off [b] w w' ∧
   ∃ p',Met w' b t p' f o r∧Pk M w' p' (if q.all (fun x=>decide (x<v)) then some v else q)∧(p'=p∨p'=some ⟨w.heap.size,0,none⟩):=by
 have up:∀ n,Off [b] w (((w.alloc (.cells #[.int .i64 v] 2)).drewN n).setCell ⟨b,1,none⟩ (.pointer (some ⟨w.heap.size,0,none⟩))) ∧
   ∃ p',Met (((w.alloc (.cells #[.int .i64 v] 2)).drewN n).setCell ⟨b,1,none⟩ (.pointer (some ⟨w.heap.size,0,none⟩))) b t p' f o r ∧
    Pk M (((w.alloc (.cells #[.int .i64 v] 2)).drewN n).setCell ⟨b,1,none⟩ (.pointer (some ⟨w.heap.size,0,none⟩))) p' (some v)∧(p'=p∨p'=some ⟨w.heap.size,0,none⟩):=by
  intro n
  have h1:Met ((w.alloc (.cells #[.int .i64 v] 2)).drewN n) b t p f o r:=(h.off (Off.alloc [] w _) (by simp)).off (Off.drewN [] _ n) (by simp)
  refine⟨((Off.alloc [b] w _).trans (Off.drewN [b] _ n)).trans (Off.setCell _ _ _ _),_,h1.s1 _,.some w.heap.size v hM ?_,.inr rfl⟩
  rw[heap_setCell_other _ _ _ _ (by have:=h.lt;simp;omega)]
  exact aE w _
 cases hp with
 | none=>
  refine (mI t b r f o v w h).mono ?_
  rintro e w' ⟨rfl,n,rfl⟩
  exact⟨rfl,up n⟩
 | some c x hMc hc=>
  by_cases hlt:x<v
  ·refine (tV t b c r f o x v w h hc hlt).mono ?_
   rintro e w' ⟨rfl,n,rfl⟩
   have e1:Option.all (fun x=>decide (x<v)) (some x)=true:=by simp[hlt]
   rw[e1]
   exact⟨rfl,up n⟩
  ·refine (tW t b c r f o x v w h hc (by omega)).mono ?_
   rintro e w' ⟨rfl,n,rfl⟩
   have e1:Option.all (fun x=>decide (x<v)) (some x)=false:=by simp[hlt]
   rw[e1]
   refine⟨rfl,(Off.alloc [b] w _).trans (Off.drewN [b] _ n),_,(h.off (Off.alloc [] w _) (by simp)).off (Off.drewN [] _ n) (by simp),?_,.inl rfl⟩
   exact .some c x hMc ((heap_alloc_old w _ (Array.getElem?_eq_some_iff.1 hc).1).trans hc)
theorem uK (B:Nat) (b m:Nat) (v:Value) (vs:List Value) (p:Option Addr) (L:List fX) (a:Option Addr) (n cap:Nat) (bs:Nat→Nat) (w:World) (h:Bg B w b m v vs p L) (R:Row8 w a n cap bs) (hab:∀ x,a=some x→x.block≠m) (hn:n≤27) (hL:L.length<4096) (hB:B≤w.heap.size) :
  Calls prog 91 #[.pointer (some ⟨b,0,none⟩),.slice a n cap] w fun e w'=>e=.returned (.tuple #[.int .i64 (L.length:Nat),.int .i64 0]) ∧
   Hid (∃ g cap' x p',Off (b :: m :: v.ownBlock.toList) w w'∧Bg B w' b m (.slice (some ⟨g,0,none⟩) (L.length+1) cap') (vs ++ [x]) p' (L ++ [(n,bs)])∧(v.ownBlock=some g∨w.heap.size≤g)∧(∀ k,x.ownBlock=some k→w.heap.size≤k)∧(p'=p∨∃ y,p'=some y∧w.heap.size≤y.block)):=by
 have HB:Hid (Bg B w b m v vs p L):=h
 have c0:=h.c0
 have c1:=h.c1
 have hbm:b≠m:=d9 h.at_ h.met.at_ (by decide)
 have hle:=wH fun f hf=>(h.fl.small f hf).1
 have hA:=lN (fO L) n m p none 0 0 w (by omega) (by omega) h.met
 have hsat:oF (fO L) n=fO L+n:=by unfold oF;rw[if_neg (by omega)]
 rw[hsat]at hA
 have o1:=Off.setCell m 0 w (.int .u64 (fO L+n:Nat))
 have m1:=h.met.s0 (fO L+n:Nat)
 have p1:Pk 0 (w.setCell ⟨m,0,none⟩ (.int .u64 (fO L+n:Nat))) p (oC L):=by
  have hp:=h.pk
  generalize oC L=q at hp
  cases hp with
  | none=>exact .none
  | some c v' h' hc=>exact .some c v' h' ((o1.block c (Array.getElem?_eq_some_iff.1 hc).1 (by simpa using d9 hc h.met.at_ (by decide))).trans hc)
 have R1:Row8 (w.setCell ⟨m,0,none⟩ (.int .u64 (fO L+n:Nat))) a n cap bs:=R.offB o1 (fun x hx=>by simpa using hab x hx)
 have hA':Calls prog 118 #[.pointer (some ⟨m,0,none⟩),.int .u64 (n:Nat)] w fun e w'=>e=.returned (.tuple #[.int .u64 (fO L+n:Nat),.int .i64 0])∧w'.cell? ⟨b,1,none⟩=some (.pointer (some ⟨m,0,none⟩))∧Hid (Off [m] w w'∧Met w' m (fO L+n:Nat) p 0 0 none∧Pk 0 w' p (oC L)∧Row8 w' a n cap bs):=by
  refine hA.mono ?_
  rintro e w' ⟨rfl,rfl⟩
  exact⟨rfl,(World.cell?_of_block (o1.block b h.lt (by simpa using hbm))).trans c1,o1,m1,p1,R1⟩
 obtain⟨av,cv,rfl⟩:=cN h.fl.rows
 have hI:¬ ((27:Int) < (n:Int)):=by omega
 obtain⟨N,eN⟩:∃ N,N=L.length:=⟨_,rfl⟩
 have HN:Hid (N=L.length):=eN
 rw[← eN]at c0 hL ⊢
 have hJ:¬ ((4096:Int) ≤ (N:Int)):=by omega
 have hblt:=h.lt
 have hw64:IntKind.u64.wrap ((n:Nat):Int)=((n:Nat):Int):=by rw[IntKind.wrap_u64];omega
 clear hA hsat hle h o1 m1 p1 R1 R eN
 obtain⟨t,et⟩:∃ t,t=fO L+n:=⟨_,rfl⟩
 have HT:Hid (t=fO L+n):=et
 rw[← et]at hA'
 clear et
 go_enter func91,ntmps91
 go_wp2_with fail
 refine hA'.mono ?_
 rintro e w1 ⟨rfl,c1',H1⟩
 clear hA' c1
 have hR:=rS 0 _ m p none _ 0 0 (n:Nat) w1 H1.out.2.1 H1.out.2.2.1 (Nat.zero_le _)
 go_wp2_with fail
 refine hR.mono ?_
 rintro e w2 ⟨rfl,H2⟩
 obtain⟨o12,p',m2,k2,n2⟩:=H2
 have o2:Off [m] w w2:=H1.out.1.trans o12
 have R2:Row8 w2 a n cap bs:=H1.out.2.2.2.offB o12 (fun x hx=>by simpa using hab x hx)
 have b2:w2.heap[b]?=some (.cells #[.slice av N cv,.pointer (some ⟨m,0,none⟩)] 102 (0,0)):=by rw[HN.out];exact (o2.block b hblt (by simpa using hbm)).trans HB.out.at_
 have hx0:∀ wx,Below w2.heap.size w2 wx→wx.cell? ⟨b,0,none⟩=some (.slice av N cv):=fun wx hx=>ae wx b 0 _ _ _ ((hx.block b (Array.getElem?_eq_some_iff.1 b2).1).trans b2)
 have hC:∀ wx,Below w2.heap.size w2 wx→Calls prog 31 #[.slice a n cap] wx fun e w'=>∃ v,e=.returned v∧∃ a' cap',v=.slice a' n cap'∧Below w2.heap.size w2 w'∧Hid (w'.ownsRow w2.heap.size 5 1 (.slice a' n cap') n (CB bs n)):=by
  intro wx hx
  refine (iM a n cap bs wx (R2.below hx) (by omega)).mono ?_
  rintro e w' ⟨a',cap',rfl,H⟩
  exact⟨_,rfl,a',cap',rfl,hx.trans (H.out.1.mono hx.size),aP H.out.2 hx.size⟩
 have f2:Fl B w2 (.slice av N cv) vs L:=by
  rw[HN.out]
  refine HB.out.fl.keep o2 fun y hy hs=>?_
  simp only[List.mem_singleton]at hy
  subst hy
  refine⟨fun e=>?_,fun c f hc=>?_⟩
  ·obtain⟨c,hc⟩:=aQ HB.out.fl.rows e
   exact d9 HB.out.met.at_ hc (by decide) rfl
  ·exact d9 HB.out.met.at_ hc (by decide) rfl
 have ho:Hid (∀ wx,Below w2.heap.size w2 wx→wx.ownsRow B 22 1 (.slice av N cv) N vs):=fun wx hx=>by have:=(f2.below hx).rows;rw[← HN.out]at this;exact this
 have hgb:Hid (∀ wx wy,Below w2.heap.size w2 wx→wx.grownBy wy (Value.slice av N cv).ownBlock→wy.heap[b]?=some (.cells #[.slice av N cv,.pointer (some ⟨m,0,none⟩)] 102 (0,0))):=by
  intro wx wy hx hg
  have hlt:=(Array.getElem?_eq_some_iff.1 b2).1
  have hka:=(hx.block b hlt).trans b2
  refine (hg.block b (Nat.lt_of_lt_of_le hlt hx.size) fun ek=>?_).trans hka
  obtain⟨c',hc'⟩:=aQ (ho.out wx hx) ek.symm
  exact d9 hka hc' (by decide) rfl
 have hby:=R2.byte
 have hB2:B≤w2.heap.size:=Nat.le_trans hB o2.size
 have H2:Hid (_):=And.intro o2 (And.intro m2 (And.intro k2 (And.intro n2 H1.out.1.size)))
 have cB:w2.cell? ⟨b,0,none⟩=some (.slice av N cv):=hx0 _ (Below.refl _ _)
 clear o12 o2 m2 k2 n2 f2 R2 b2 H1 hR c1' c0
 go_wp2_with fail
 go_region_law (first
  | (refine oQ 31 #[.tmp 45] #[22] rfl (by kernel_rfl) #[.slice a n cap] (by kernel_rfl) (hC _ (by repeat (first | with_reducible assumption | with_reducible refine fH ?_ _ | with_reducible refine Below.drew ?_ | with_reducible refine js ?_ (Nat.le_refl _) _ | with_reducible exact Below.refl _ _))) ?_;rintro _ w3 ⟨a3,cap3,rfl,b3,H3⟩;have c3:=hx0 _ b3;have c3a:=hx0 (w3.alloc (.cells #[.slice a3 n cap3] 22)) (js b3 (Nat.le_refl _) _))
  | (refine rY rfl (.tmp 44) (.tmp 47) rfl rfl B N w3.heap.size vs (.slice a3 n cap3) (.slice av N cv) rfl (ho.out _ (by repeat (first | with_reducible assumption | with_reducible refine fH ?_ _ | with_reducible refine Below.drew ?_ | with_reducible refine js ?_ (Nat.le_refl _) _ | with_reducible exact Below.refl _ _))) rfl (ae _ _ 0 _ _ _ (aE w3 _)) rfl (by omega) (by rw[World.size_alloc];have:=b3.size;omega) ?_;intro g4 cap4 w4 H4;have hp4:=hgb.out _ _ (by repeat (first | with_reducible assumption | with_reducible refine fH ?_ _ | with_reducible refine Below.drew ?_ | with_reducible refine js ?_ (Nat.le_refl _) _ | with_reducible exact Below.refl _ _)) H4.out.2.1;have hc4:=ae w4 b 0 _ _ _ hp4;have hf4:=frozen_of_row w4 b 0 _ _ hp4))
 all_goals
  clear ho hC hx0 cB c3 c3a hp4
  go_wp2_with fail
  go_ret2
  refine⟨rfl,g4,cap4,.slice a3 n cap3,p',?_⟩
  obtain rfl:=HN.out
  have hT:=HT.out
  subst hT
  obtain⟨z1,z2,z3⟩:=HB.out.put H2.out.1 (by rw[tP];exact H2.out.2.1) (by rw[vU];exact H2.out.2.2.1) b3 H3.out hn hby hL hB2 ((Below.refl _ _).alloc (Nat.le_refl _) _) H4.out.1 H4.out.2.1 H4.out.2.2
  refine⟨z1,z2,z3,fun k hk=>Nat.le_trans H2.out.1.size (H3.out.lt k hk).1,?_⟩
  rcases H2.out.2.2.2.1 with e | e
  ·exact .inl e
  ·exact .inr ⟨_,e,H2.out.2.2.2.2⟩
theorem a8 {l:List Nat} {w w':World} {B e size n:Nat} {v:Value} {xs:List Value} (h:w.ownsRow B e size v n xs) (q:Off l w w') (hl:∀ k,v.ownBlock=some k→k ∉ l):w'.ownsRow B e size v n xs:=gi h fun k hk=>by
 obtain⟨c,hc⟩:=aQ h hk
 exact q.block k (Array.getElem?_eq_some_iff.1 hc).1 (hl k hk)
theorem DV.offY {w w':World} {d m g n mx:Nat} {P:Pm} {U l:List Nat} {s:Sd} (h:DV w d m g n mx P U s) (q:Off l w w') (hl:∀ k,k ∈ U→k ∉ l):DV w' d m g n mx P U s:=by
 obtain⟨B,h⟩:=h
 exact⟨B,⟨(q.block d h.dlt (hl _ h.kd.2)).trans h.dev,h.mem.off q (hl _ h.km.2) (hl _ h.kg.2),fun hs=>⟨(h.cel hs).1,(h.cel hs).2.1.off q (hl _ h.kc.2),(h.cel hs).2.2⟩,h.dog.off q (hl _ h.kb.2),h.val.off q (hl _ h.kv.2) (hl _ h.kw.2) (fun k hk hM=>hl k (h.kM k hM).2 hk),h.log.off q (fun k hk=>hl _ (h.kl k hk).2),aI h.app q (fun k hk=>hl _ (h.ka k hk).2),h.apb,fun k hk=>Nat.lt_of_lt_of_le (h.ltU k hk) q.size,h.kd,h.km,h.kg,h.kc,h.kb,h.kv,h.kw,h.kM,h.kl,h.ka,h.pok,h.n10,h.mx0,h.mxl⟩⟩
def kD (b m:Nat) (v:Value) (vs:List Value) (p:Option Addr):List Nat:=b :: m :: (v.ownBlock.toList ++ (p.toList.map (·.block) ++ vs.filterMap Value.ownBlock))
theorem xp {b m:Nat} {v:Value} {vs:List Value} {p:Option Addr} {x:Value} {k:Nat} (hx:x ∈ vs) (hk:x.ownBlock=some k):k ∈ kD b m v vs p:=by
 unfold kD
 simp only[List.mem_cons,List.mem_append,List.mem_filterMap]
 exact .inr (.inr (.inr (.inr ⟨x,hx,hk⟩)))
theorem zt {b m:Nat} {v:Value} {vs:List Value} {p:Option Addr} {k:Nat} (hk:v.ownBlock=some k):k ∈ kD b m v vs p:=by
 unfold kD
 simp[hk]
theorem zy {b m:Nat} {v:Value} {vs:List Value} {p:Option Addr} {y:Addr} (hk:p=some y):y.block ∈ kD b m v vs p:=by
 unfold kD
 simp[hk]
theorem Bg.offU {B:Nat} {w w':World} {b m:Nat} {v:Value} {vs:List Value} {p:Option Addr} {L:List fX} {l:List Nat} (h:Bg B w b m v vs p L) (o:Off l w w') (hl:∀ k,k ∈ kD b m v vs p→k ∉ l):Bg B w' b m v vs p L:=by
 have kk:∀ {e:TypeId} {s n:Nat} {x:Value} {xs:List Value},w.ownsRow B e s x n xs→(∀ g,x.ownBlock=some g→g ∉ l)→w'.ownsRow B e s x n xs:=by
  intro e s n x xs ho hg
  refine gi ho fun g eg=>?_
  obtain⟨c,hc⟩:=aQ ho eg
  exact o.block g (Array.getElem?_eq_some_iff.1 hc).1 (hg g eg)
 refine⟨(o.block b h.lt (hl b (by simp[kD]))).trans h.at_,⟨kk h.fl.rows (fun g eg=>hl g (zt eg)),fun i f hi=>?_,h.fl.small,h.fl.len⟩,h.met.off o (hl m (by simp[kD])),?_,h.bB,h.mB⟩
 ·obtain⟨x,hx,ho⟩:=h.fl.frs i f hi
  exact⟨x,hx,kk ho (fun g eg=>hl g (xp (List.mem_of_getElem? hx) eg))⟩
 ·have hp:=h.pk
  generalize oC L=q at hp
  cases hp with
  | none=>exact .none
  | some c v' h' hc=>exact .some c v' h' ((o.block c (Array.getElem?_eq_some_iff.1 hc).1 (hl c (zy rfl))).trans hc)
theorem Bg.ltU {B:Nat} {w:World} {b m:Nat} {v:Value} {vs:List Value} {p:Option Addr} {L:List fX} (h:Bg B w b m v vs p L) (hvs:vs.length=L.length):∀ k,k ∈ kD b m v vs p→k<w.heap.size:=by
 intro k hk
 simp only[kD,List.mem_cons,List.mem_append,List.mem_filterMap,Option.mem_toList,List.mem_map]at hk
 rcases hk with rfl | rfl | hk | ⟨y,hy,rfl⟩ | ⟨x,hx,hk⟩
 ·exact h.lt
 ·exact h.met.lt
 ·obtain⟨c,hc⟩:=aQ h.fl.rows hk
  exact (Array.getElem?_eq_some_iff.1 hc).1
 ·have hp:=h.pk
  generalize oC L=q at hp
  cases hp with
  | none=>cases hy
  | some c v' h' hc=>
   cases hy
   exact (Array.getElem?_eq_some_iff.1 hc).1
 ·obtain⟨i,hi⟩:=List.getElem?_of_mem hx
  have hlt:i<L.length:=by have:=(List.getElem?_eq_some_iff.1 hi).1;omega
  obtain⟨x',hx',ho⟩:=h.fl.frs i L[i] (List.getElem?_eq_getElem hlt)
  rw[hi]at hx'
  cases hx'
  obtain⟨c,hc⟩:=aQ ho hk
  exact (Array.getElem?_eq_some_iff.1 hc).1
def bgT (b m:Nat) (v:Value) (vs:List Value) (p:Option Addr) (L:List fX):Thing:=⟨kD b m v vs p,fun w=>Bg 0 w b m v vs p L∧vs.length=L.length,fun _ _ _ h o hl=>⟨h.1.offU o hl,h.2⟩⟩
open Go.RowKit
structure Mv where
 k:Int
 c:Int
 s:Int
 f:Int
 a:Int
 w:Nat
 n:Int
 h:Bool
 l:Nat
 b:Nat→Nat
abbrev ai (m:Mv) (c:Int) (d:Option Addr) (e:Nat):Array Value:=#[.int .i64 m.k,.int .i64 c,.int .i64 m.s,.int .i64 m.f,.int .i64 m.a,.int .u32 (m.w:Nat),.int .i64 m.n,.bool m.h,.slice d m.l e]
structure Mv.Ok (m:Mv):Prop where
 k : -9223372036854775808≤m.k∧m.k≤9223372036854775807
 c : -9223372036854775808≤m.c∧m.c≤9223372036854775807
 s : -9223372036854775808≤m.s∧m.s≤9223372036854775807
 f : -9223372036854775808≤m.f∧m.f≤9223372036854775807
 a : -9223372036854775808≤m.a∧m.a≤9223372036854775807
 w:m.w<4294967296
 n : -9223372036854775808≤m.n∧m.n≤9223372036854775807
structure Sh where
 L:List R4
 dc:Nat
 v:Vs
 st:Nat
 ss:Nat
 nm:Nat
 sn:Nat
 wt:Bool
 ms:Nat
 ap:Nat→Nat
 hd:Bool
def eX (s:Sh) (x:Int):Sh:={ s with L:=s.L ++ [(((s.L.length+1:Nat):Int),x,(s.ss:Int),(s.nm:Int))] }
def a6 (s:Sh) (x:Int):Sh:=if gh s.v x=true then eX { s with v:=du s.v x } x else { s with v:=du s.v x }
def oy (s:Sh):Sh:={ s with wt:=false,ms:=0,dc:=0,v:=bH s.v }
def fV (s:Sh) (k:Nat):Sh:={ s with v:=dI s.v false,st:=k }
def iu (s:Sh):Sh:={ s with v:=dI s.v false,st:=1,nm:=0,sn:=0,wt:=false,ms:=0 }
def j6 (s:Sh):Sh:=fV (a6 s 80) 5
def fR (s:Sh):Sh:={ s with dc:=0,v:=kH,st:=1,ss:=0,nm:=0,sn:=0,wt:=false,ms:=0,ap:=fun _=>0,hd:=false }
def aW (s:Sh):Nat:=(if aB s.v=true then 0 else 1) + (if aq s.v=true then 2 else 0) + (if s.v.lat=0 then 0 else 4) + (if s.hd=true then 8 else 0)
def ck (s:Sh):Sh:=
 if s.st=1∨s.wt=false then s else if s.ms+1<4 then { s with ms:=s.ms+1 } else iu (if s.st=4 then a6 { s with ms:=s.ms+1 } 131 else { s with ms:=s.ms+1 })
def bf (P:Pm) (s:Sh):Sh × Fm:=
 if s.st=1 then (s,dC 1 P.c 0 0 0 4 (jj P))
 else if s.st=2 then (s,dC 2 P.c s.ss 0 0 4 (jj P))
 else if s.st=3 then (s,dC 3 P.c s.ss 0 0 0 (fun _=>0))
 else if s.sn+1=P.n then (j6 { s with sn:=s.sn+1 },dC 5 P.c s.ss (s.sn+1) 0 0 (fun _=>0))
 else ({ s with sn:=s.sn+1 },dC 4 P.c s.ss (s.sn+1) (aW s) P.o s.ap)
def gc (s:Sh):Int:=if s.st=5 then 132 else 0
def aC (P:Pm) (s:Sh):Sh:=if s.st=5 then s else { (bf P (ck s)).1 with wt:=true }
def az (P:Pm) (s:Sh):Fm:=if s.st=5 then dX else (bf P (ck s)).2
def bL (P:Pm) (s:Sh) (k num len:Nat):Bool:=
 decide (k=18∧s.st=2∨k=19∧s.st=3∨k=20∧((s.st=4∧s.nm<num)∧num<P.n)∧len=P.i∨k=21∧(s.st=4∧s.nm<num)∧num=P.n)
def jg (P:Pm) (s:Sh) (k ss len:Nat) (bs:Nat→Nat):Int:=if k≠17∨ss≤s.ss then 130 else if aO P len bs=true then 0 else 91
def cQ (P:Pm) (s:Sh) (k c ss num len:Nat) (bs:Nat→Nat):Int:=
 if iI k=false then 43 else if c≠P.c then 44 else if s.st=1 then jg P s k ss len bs else if ss≠s.ss∨bL P s k num len=false then 130 else 0
def bJ (s:Sh) (k ss num fl:Nat) (bs:Nat→Nat):Sh:=
 if k=17 then oy { s with st:=2,ss:=ss }
 else if k=18 then oy { s with st:=3 }
 else if k=19 then oy { s with st:=4,v:=dI s.v true }
 else if k=20 then { oy { s with nm:=num } with v:=bP (cP (bH s.v) (decide (8≤fl))) bs }
 else if k=21 then j6 (oy { s with nm:=num })
 else oy s
def dE (P:Pm) (s:Sh) (len:Nat) (bs:Nat→Nat):Int:=
 if DE bs len≠0 then DE bs len else cQ P s (bs 0) (aV bs 1) (aV bs 5) (aV bs 9) (len-19) (fun i=>bs (15+i))
def cC (P:Pm) (s:Sh) (len:Nat) (bs:Nat→Nat):Sh:=
 if dE P s len bs≠0 then eX s (dE P s len bs) else bJ s (bs 0) (aV bs 5) (aV bs 9) (bs 13) (fun i=>bs (15+i))
def eW (P:Pm) (len:Nat):Int:=if len=P.o then 0 else 45
def dx (P:Pm) (s:Sh) (len:Nat) (bs:Nat→Nat) (h:Bool):Sh:=if len=P.o then { s with ap:=bs,hd:=h } else s
def eO (k:Int):Int:=if k<0 then 2 else 0
def dh (P:Pm) (s:Sh) (k:Int):Sh:=if k<0 then s else
 if ji P.t s.dc k.toNat=true then a6 { s with dc:=tk P.t s.dc k.toNat } 100 else { s with dc:=tk P.t s.dc k.toNat }
def fS (s:Sh):Int:=i7 s.v
def fC (s:Sh):Sh:={ s with v:=ep s.v }
def bN:Sh:=⟨[],0,kH,1,0,0,0,false,0,fun _=>0,false⟩
structure Ih (P:Pm) (s:Sh):Prop where
 st1:1≤s.st
 st5:s.st≤5
 ss:s.ss<4294967296
 nm:s.nm<4294967296
 sn:s.sn<4294967296
 ms:s.ms<4
 s4:s.st=2∨s.st=3∨s.st=4→s.ss≠0
 hs:s.st≠4→s.st≠5→s.sn=0∧s.nm=0
 run:s.st=4→s.sn<P.n∧s.nm<P.n
 vr:s.v.run=decide (s.st=4)
 lat5:s.st=5→s.v.lat≠0
set_option linter.unusedVariables false
structure Fa where
 k:Nat
 c:Nat
 s:Nat
 ss:Nat
 nn:Nat
 on:Bool
 cd:Int
 d:Fm
structure Ws where
 n:Nat
 PH:Nat→Pm
 PD:Nat→Pm
 hs:Nat→Sh
 ds:Nat→Sd
 mx:Nat
 bg:List Fm
 mv:Nat
 fs:List Fa
def eE {α:Type} (f:Nat→α) (k:Nat) (x:α):Nat→α:=fun j=>if j=k then x else f j
theorem aj {α:Type} (f:Nat→α) (k:Nat) (x:α):eE f k x k=x:=if_pos rfl
theorem gO {α:Type} (f:Nat→α) {k j:Nat} (x:α) (h:j≠k):eE f k x j=f j:=if_neg h
def Ws.setH (S:Ws) (k:Nat) (s:Sh):Ws:={ S with hs:=eE S.hs k s }
def Ws.setD (S:Ws) (k:Nat) (s:Sd):Ws:={ S with ds:=eE S.ds k s }
def Ws.note (S:Ws) (l:List Fa):Ws:={ S with fs:=S.fs ++ l }
def yy (at_ x i:Nat):Nat:=(List.range 8).foldl (fun n j=>2*n + (PM.ly at_ (PM.bl x) x (PM.bl x) (8*i+j)).toNat) 0
def vF (f:Fm) (at_ x:Nat):Fm:=(f.1,xr f.2 (yy at_ x))
def mJ (f:Fm):Nat:=if DE f.2 f.1=0 then f.2 0 else 0
def dK (kd k s:Nat) (f:Fm):List Fa:=if mJ f=4∨mJ f=20 then [⟨kd,k,s,aV f.2 5,aV f.2 9,false,0,(f.1-19,fun i=>f.2 (15+i))⟩] else []
def dB (kd k s:Nat):Fa:=⟨kd,k,s,0,0,false,0,dX⟩
def cH (k s:Nat) (f:Fm):List Fa:=dB 4 k s :: dK 2 k s f
def dN (k:Nat) (a b:Sd):List Fa:=(if b.st=6∧a.st≠6 then [dB 7 k 2] else []) ++ (if b.ss≠a.ss∧b.ss≠0 then [⟨3,k,2,b.ss,0,false,0,dX⟩] else [])
def yu (f:Fm) (st:Nat):Bool:=if mJ f=1 then false else if mJ f=2 then decide (st=2) else if mJ f=3 then decide (st=3) else true
def Ws.put (S:Ws) (k s:Nat) (f:Fm):Ws:=if f.1=0 then S else { S with bg:=S.bg ++ [f],fs:=S.fs ++ dK 1 k s f }
def Ws.putI (S:Ws) (f:Fm):Int:=if f.1=0 then -1 else ((S.bg.length:Nat):Int)
structure Wr where
 e:Int
 i:Int
 S:Ws
def Ws.toH (S:Ws) (k:Nat) (f:Fm):Wr:=
 ⟨dE (S.PH k) (S.hs k) f.1 f.2,-1,if dE (S.PH k) (S.hs k) f.1 f.2=0 then (S.setH k (cC (S.PH k) (S.hs k) f.1 f.2)).note (cH k 1 f) else S.setH k (cC (S.PH k) (S.hs k) f.1 f.2)⟩
def Ws.toD1 (S:Ws) (k:Nat) (f:Fm):Ws:=(S.setD k (au (S.PD k) S.mx 16 (S.ds k) f.1 f.2).s).note (dN k (S.ds k) (au (S.PD k) S.mx 16 (S.ds k) f.1 f.2).s)
def Ws.toD2 (S:Ws) (k:Nat) (f:Fm):Ws:=if (au (S.PD k) S.mx 16 (S.ds k) f.1 f.2).e=0∧yu f (S.ds k).st=true then (S.toD1 k f).note (cH k 2 f) else S.toD1 k f
def Ws.toD (S:Ws) (k:Nat) (f:Fm):Wr:=⟨(au (S.PD k) S.mx 16 (S.ds k) f.1 f.2).e,(S.toD2 k f).putI (au (S.PD k) S.mx 16 (S.ds k) f.1 f.2).f,(S.toD2 k f).put k 2 (au (S.PD k) S.mx 16 (S.ds k) f.1 f.2).f⟩
def Ws.snd (S:Ws) (k:Nat):Wr:=⟨gc (S.hs k),(S.setH k (aC (S.PH k) (S.hs k))).putI (az (S.PH k) (S.hs k)),(S.setH k (aC (S.PH k) (S.hs k))).put k 1 (az (S.PH k) (S.hs k))⟩
def Ws.fr (S:Ws) (m:Mv):Fm:=if m.k=4 then vF (S.bg.getD m.f.toNat dX) m.a.toNat m.w else S.bg.getD m.f.toNat dX
def eM (k:Int):Bool:=(k != 2) && (k != 8)
def Ws.bad (S:Ws) (m:Mv):Int:=
 if 4096≤S.mv then 150 else if m.k<1∨8<m.k then 170 else if m.c<0∨((S.n:Nat):Int)≤m.c then 171 else if eM m.k=true∧m.s≠1∧m.s≠2 then 172
 else if m.k=3 then (if m.f<0∨((S.bg.length:Nat):Int)≤m.f then 151 else 0)
 else if m.k=4 then (if m.f<0∨((S.bg.length:Nat):Int)≤m.f then 151 else cE (S.bg.getD m.f.toNat dX).1 m.a m.w)
 else if m.k=5 then (if m.n<0∨1048576<m.n then 2 else 0)
 else if m.k=7 then (if m.n<0∨m.s=1∧0<m.n then 2 else 0)
 else if m.k=8 then (if m.n<0 then 2 else 0) else 0
def Ws.act (S:Ws) (m:Mv):Wr:=
 let k:=m.c.toNat
 if m.k=1 then (if m.s=1 then ⟨eW (S.PH k) m.l,-1,S.setH k (dx (S.PH k) (S.hs k) m.l m.b m.h)⟩ else ⟨fc (S.PD k) (S.ds k) m.l,-1,S.setD k (dz (S.PD k) (S.ds k) m.l m.b m.h)⟩)
 else if m.k=2 then S.snd k
 else if m.k=3∨m.k=4 then (if m.s=1 then S.toH k (S.fr m) else S.toD k (S.fr m))
 else if m.k=5 then
  (if m.s=1 then ⟨eO m.n,-1,(S.setH k (dh (S.PH k) (S.hs k) m.n)).note (if eO m.n=0 then [⟨5,k,1,0,m.n.toNat,false,0,dX⟩] else [])⟩
   else ⟨eG (S.ds k) m.n,-1,(S.setD k (dk (S.PD k) (S.ds k) m.n)).note (if eG (S.ds k) m.n=0 then [⟨5,k,2,0,m.n.toNat,false,0,dX⟩] else [])⟩)
 else if m.k=6 then
  (if m.s=1 then ⟨fS (S.hs k),-1,(S.setH k (fC (S.hs k))).note (if fS (S.hs k)=0 then [dB 6 k 1] else [])⟩
   else ⟨fF (S.ds k),-1,(S.setD k (cY (S.ds k))).note (if fF (S.ds k)=0 then [dB 6 k 2] else [])⟩)
 else if m.k=7 then
  (if m.s=1 then ⟨0,-1,(S.note [dB 7 k 1]).setH k (fR (S.hs k))⟩ else ⟨fQ S.mx 16 (S.ds k) m.n,-1,(S.note [dB 7 k 2]).setD k (cK S.mx 16 (S.ds k) m.n)⟩)
 else ⟨yr m.n,-1,S.setD k { S.ds k with ms:=ks (S.ds k).ms m.n }⟩
def oH (S:Ws) (k:Nat):Fa:=⟨8,k,1,0,0,aB (S.hs k).v,(S.hs k).v.lat,((S.PH k).i,cG (S.hs k).v)⟩
def oD (S:Ws) (k:Nat):Fa:=⟨8,k,2,0,0,aB (S.ds k).v,(S.ds k).v.lat,((S.PD k).o,cG (S.ds k).v)⟩
def Ws.play (S:Ws) (m:Mv):Wr:=
 if S.bad m≠0 then ⟨S.bad m,0,S⟩ else
  let r:=({ S with mv:=S.mv+1 }:Ws).act m
  ⟨r.e,r.i,r.S.note [oH r.S m.c.toNat,oD r.S m.c.toNat]⟩
def iL (P:Pm) (lb db vb:Nat) (s:Sh) (av:Value):Array Value:=
 #[.int .u32 (P.c:Nat),.int .i64 (P.o:Nat),.int .i64 (P.i:Nat),.int .i64 (P.t:Nat),.int .u32 (P.n:Nat),.pointer (some ⟨lb,0,none⟩),
  .pointer (some ⟨db,0,none⟩),.pointer (some ⟨vb,0,none⟩),.int .i64 (s.st:Nat),.int .u32 (s.ss:Nat),.int .u32 (s.nm:Nat),.int .u32 (s.sn:Nat),.bool s.wt,.int .i64 (s.ms:Nat),av,.bool s.hd]
structure Bh where
 lb:Nat
 db:Nat
 vb:Nat
 vg:Nat
 M:List Nat
 Ul:List Nat
 av:Value
 col:Nat→Nat
structure HX (w:World) (d:Nat) (P:Pm) (U:List Nat) (s:Sh) (B:Bh):Prop where
 dev:w.heap[d]?=some (.cells (iL P B.lb B.db B.vb s B.av) 126 (0,0))
 dog:DR w B.db P.t s.dc
 val:VR w B.vb B.vg B.M P.i s.v
 log:DG w B.lb B.Ul s.L
 app:w.ownsRow 0 5 1 B.av P.o (CB s.ap P.o)
 apb:∀ i,i<P.o→s.ap i<256
 ltU:∀ k,k ∈ U→k<w.heap.size
 kd:B.col d=0∧d ∈ U
 kb:B.col B.db=3∧B.db ∈ U
 kv:B.col B.vb=4∧B.vb ∈ U
 kw:B.col B.vg=4∧B.vg ∈ U
 kM:∀ k,k ∈ B.M→B.col k=4∧k ∈ U
 kl:∀ k,k ∈ B.Ul→B.col k=5∧k ∈ U
 ka:∀ k,B.av.ownBlock=some k→B.col k=6∧k ∈ U
 pok:Pok P
def HV (w:World) (d:Nat) (P:Pm) (U:List Nat) (s:Sh):Prop:=∃ B,HX w d P U s B
section
variable {w w':World} {d:Nat} {P:Pm} {U:List Nat} {s s':Sh} {B:Bh}
theorem HX.dlt (h:HX w d P U s B):d<w.heap.size:=h.ltU d h.kd.2
theorem HX.own (h:HX w d P U s B) (q:Off [d] w w') (e:w'.heap[d]?=some (.cells (iL P B.lb B.db B.vb s' B.av) 126 (0,0)))
  (h2:s'.dc=s.dc) (h3:s'.v=s.v) (h4:s'.L=s.L) (h5:s'.ap=s.ap):HX w' d P U s' B:=by
 have hn:∀ k,B.col k≠0→k ∉ [d]:=fun k hk hm=>by simp at hm;rw[hm,h.kd.1]at hk;exact hk rfl
 refine⟨e,?_,?_,?_,?_,h5 ▸ h.apb,fun k hk=>Nat.lt_of_lt_of_le (h.ltU k hk) q.size,h.kd,h.kb,h.kv,h.kw,h.kM,h.kl,h.ka,h.pok⟩
 ·rw[h2];exact h.dog.off q (hn _ (by rw[h.kb.1];omega))
 ·rw[h3];exact h.val.off q (hn _ (by rw[h.kv.1];omega)) (hn _ (by rw[h.kw.1];omega)) (fun k hk hM=>by simp at hk;subst hk;have:=(h.kM _ hM).1;rw[h.kd.1]at this;omega)
 ·rw[h4];exact h.log.off q (fun k hk=>hn _ (by rw[(h.kl k hk).1];omega))
 ·rw[h5];exact aI h.app q (fun k hk=>hn _ (by rw[(h.ka k hk).1];omega))
theorem HX.dogd (h:HX w d P U s B) (q:Off [B.db] w w') {c:Nat} (e:DR w' B.db P.t c):HX w' d P U { s with dc:=c } B:=by
 have hn:∀ k,B.col k≠3→k ∉ [B.db]:=fun k hk hm=>by simp at hm;rw[hm,h.kb.1]at hk;exact hk rfl
 refine⟨(q.block d h.dlt (hn _ (by rw[h.kd.1];omega))).trans h.dev,e,?_,?_,?_,h.apb,fun k hk=>Nat.lt_of_lt_of_le (h.ltU k hk) q.size,h.kd,h.kb,h.kv,h.kw,h.kM,h.kl,h.ka,h.pok⟩
 ·exact h.val.off q (hn _ (by rw[h.kv.1];omega)) (hn _ (by rw[h.kw.1];omega)) (fun k hk hM=>by simp at hk;subst hk;have:=(h.kM _ hM).1;rw[h.kb.1]at this;omega)
 ·exact h.log.off q (fun k hk=>hn _ (by rw[(h.kl k hk).1];omega))
 ·exact aI h.app q (fun k hk=>hn _ (by rw[(h.ka k hk).1];omega))
theorem HX.vald (h:HX w d P U s B) (q:Off [B.vb,B.vg] w w') {M:List Nat} {v:Vs} (e:VR w' B.vb B.vg M P.i v) (hM:∀ k,k ∈ M→k ∈ B.M∨w.heap.size≤k) (hl:∀ k,k ∈ M→k<w'.heap.size) :
  ∃ U' B',Gr U w U' w'∧HX w' d P U' { s with v:=v } B':=by
 have hn:∀ k,B.col k≠4→k ∉ [B.vb,B.vg]:=fun k hk hm=>by simp at hm;rcases hm with hm | hm <;> rw[hm]at hk <;> first | exact hk h.kv.1 | exact hk h.kw.1
 let col':Nat→Nat:=fun k=>if k<w.heap.size then B.col k else 4
 have hc:∀ k x,B.col k=x∧k ∈ U→col' k=x∧k ∈ M ++ U:=fun k x hk=>⟨by show (if k<w.heap.size then B.col k else 4)=x;rw[if_pos (h.ltU k hk.2)];exact hk.1,by simp[hk.2]⟩
 refine⟨M ++ U,{ B with M:=M,col:=col' },⟨q.more (fun k hk=>by simp at hk;rcases hk with rfl | rfl <;> first | exact h.kv.2 | exact h.kw.2),fun k hk=>?_⟩,?_⟩
 ·rcases List.mem_append.1 hk with hk | hk
  ·rcases hM k hk with hk | hk
   ·exact .inl (h.kM k hk).2
   ·exact .inr hk
  ·exact .inl hk
 refine⟨(q.block d h.dlt (hn _ (by rw[h.kd.1];omega))).trans h.dev,?_,e,?_,?_,h.apb,?_,hc _ _ h.kd,hc _ _ h.kb,hc _ _ h.kv,hc _ _ h.kw,?_,fun k hk=>hc _ _ (h.kl k hk),fun k hk=>hc _ _ (h.ka k hk),h.pok⟩
 ·exact h.dog.off q (hn _ (by rw[h.kb.1];omega))
 ·exact h.log.off q (fun k hk=>hn _ (by rw[(h.kl k hk).1];omega))
 ·exact aI h.app q (fun k hk=>hn _ (by rw[(h.ka k hk).1];omega))
 ·intro k hk
  rcases List.mem_append.1 hk with hk | hk
  ·exact hl k hk
  ·exact Nat.lt_of_lt_of_le (h.ltU k hk) q.size
 ·intro k hk
  rcases hM k hk with hk' | hk'
  ·exact⟨(hc k 4 (h.kM k hk')).1,List.mem_append.2 (.inl hk)⟩
  ·exact⟨by show (if k<w.heap.size then B.col k else 4)=4;rw[if_neg (by omega)],List.mem_append.2 (.inl hk)⟩
theorem HX.vals (h:HX w d P U s B) (q:Off [B.vb,B.vg] w w') {v:Vs} (e:VR w' B.vb B.vg B.M P.i v):∃ U' B',Gr U w U' w'∧HX w' d P U' { s with v:=v } B':=
 h.vald q e (fun _ hk=>.inl hk) (fun k hk=>Nat.lt_of_lt_of_le (h.ltU k (h.kM k hk).2) q.size)
theorem HX.logd (h:HX w d P U s B) {V:List Nat} {L:List R4} (q:Off B.Ul w w') (e:DG w' B.lb V L) (hV:∀ k,k ∈ V→k ∈ B.Ul∨w.heap.size≤k) :
  ∃ U' B',Gr U w U' w'∧HX w' d P U' { s with L:=L } B':=by
 have hV:∀ k,k ∈ V→(k ∈ B.Ul∨w.heap.size≤k)∧k<w'.heap.size:=fun k hk=>⟨hV k hk,e.ult k hk⟩
 have hn:∀ k,B.col k≠5→k ∉ B.Ul:=fun k hk hm=>hk (h.kl k hm).1
 let col':Nat→Nat:=fun k=>if k<w.heap.size then B.col k else 5
 have hc:∀ k x,B.col k=x∧k ∈ U→col' k=x∧k ∈ V ++ U:=fun k x hk=>⟨by show (if k<w.heap.size then B.col k else 5)=x;rw[if_pos (h.ltU k hk.2)];exact hk.1,by simp[hk.2]⟩
 refine⟨V ++ U,{ B with Ul:=V,col:=col' },⟨q.more (fun k hk=>(h.kl k hk).2),fun k hk=>?_⟩,?_⟩
 ·rcases List.mem_append.1 hk with hk | hk
  ·rcases (hV k hk).1 with hk | hk
   ·exact .inl (h.kl k hk).2
   ·exact .inr hk
  ·exact .inl hk
 refine⟨(q.block d h.dlt (hn _ (by rw[h.kd.1];omega))).trans h.dev,?_,?_,e,?_,h.apb,?_,hc _ _ h.kd,hc _ _ h.kb,hc _ _ h.kv,hc _ _ h.kw,fun k hk=>hc _ _ (h.kM k hk),?_,fun k hk=>hc _ _ (h.ka k hk),h.pok⟩
 ·exact h.dog.off q (hn _ (by rw[h.kb.1];omega))
 ·exact h.val.off q (hn _ (by rw[h.kv.1];omega)) (hn _ (by rw[h.kw.1];omega)) (fun k hk hM=>by have:=(h.kM _ hM).1;rw[(h.kl k hk).1]at this;omega)
 ·exact aI h.app q (fun k hk=>hn _ (by rw[(h.ka k hk).1];omega))
 ·intro k hk
  rcases List.mem_append.1 hk with hk | hk
  ·exact (hV k hk).2
  ·exact Nat.lt_of_lt_of_le (h.ltU k hk) q.size
 ·intro k hk
  rcases (hV k hk).1 with hk' | hk'
  ·exact⟨(hc k 5 (h.kl k hk')).1,List.mem_append.2 (.inl hk)⟩
  ·exact⟨by show (if k<w.heap.size then B.col k else 5)=5;rw[if_neg (by omega)],List.mem_append.2 (.inl hk)⟩
theorem HX.newd (h:HX w d P U s B) (q:Off [] w w'):HX w' d P U s B:=
 ⟨(q.block d h.dlt (by simp)).trans h.dev,h.dog.off q (by simp),h.val.off q (by simp) (by simp) (by simp),h.log.off q (by simp),aI h.app q (by simp),h.apb,fun k hk=>Nat.lt_of_lt_of_le (h.ltU k hk) q.size,h.kd,h.kb,h.kv,h.kw,h.kM,h.kl,h.ka,h.pok⟩
theorem HX.c0 (h:HX w d P U s B):w.cell? ⟨d,0,none⟩=some (.int .u32 (P.c:Nat)):=ae w d 0 _ _ _ h.dev
theorem HX.c1 (h:HX w d P U s B):w.cell? ⟨d,1,none⟩=some (.int .i64 (P.o:Nat)):=ae w d 1 _ _ _ h.dev
theorem HX.c2 (h:HX w d P U s B):w.cell? ⟨d,2,none⟩=some (.int .i64 (P.i:Nat)):=ae w d 2 _ _ _ h.dev
theorem HX.c3 (h:HX w d P U s B):w.cell? ⟨d,3,none⟩=some (.int .i64 (P.t:Nat)):=ae w d 3 _ _ _ h.dev
theorem HX.c4 (h:HX w d P U s B):w.cell? ⟨d,4,none⟩=some (.int .u32 (P.n:Nat)):=ae w d 4 _ _ _ h.dev
theorem HX.c5 (h:HX w d P U s B):w.cell? ⟨d,5,none⟩=some (.pointer (some ⟨B.lb,0,none⟩)):=ae w d 5 _ _ _ h.dev
theorem HX.c6 (h:HX w d P U s B):w.cell? ⟨d,6,none⟩=some (.pointer (some ⟨B.db,0,none⟩)):=ae w d 6 _ _ _ h.dev
theorem HX.c7 (h:HX w d P U s B):w.cell? ⟨d,7,none⟩=some (.pointer (some ⟨B.vb,0,none⟩)):=ae w d 7 _ _ _ h.dev
theorem HX.c8 (h:HX w d P U s B):w.cell? ⟨d,8,none⟩=some (.int .i64 (s.st:Nat)):=ae w d 8 _ _ _ h.dev
theorem HX.c9 (h:HX w d P U s B):w.cell? ⟨d,9,none⟩=some (.int .u32 (s.ss:Nat)):=ae w d 9 _ _ _ h.dev
theorem HX.c10 (h:HX w d P U s B):w.cell? ⟨d,10,none⟩=some (.int .u32 (s.nm:Nat)):=ae w d 10 _ _ _ h.dev
theorem HX.c11 (h:HX w d P U s B):w.cell? ⟨d,11,none⟩=some (.int .u32 (s.sn:Nat)):=ae w d 11 _ _ _ h.dev
theorem HX.c12 (h:HX w d P U s B):w.cell? ⟨d,12,none⟩=some (.bool s.wt):=ae w d 12 _ _ _ h.dev
theorem HX.c13 (h:HX w d P U s B):w.cell? ⟨d,13,none⟩=some (.int .i64 (s.ms:Nat)):=ae w d 13 _ _ _ h.dev
theorem HX.c14 (h:HX w d P U s B):w.cell? ⟨d,14,none⟩=some B.av:=ae w d 14 _ _ _ h.dev
theorem HX.c15 (h:HX w d P U s B):w.cell? ⟨d,15,none⟩=some (.bool s.hd):=ae w d 15 _ _ _ h.dev
theorem HX.fz (h:HX w d P U s B) (j:Nat):w.frozen? ⟨d,j,none⟩=false:=frozen_of_row w d j _ _ h.dev
end
end Go.Proofs.YtfgnmadnmjdbiaaGreat
