/- Part 3: contracts that the proof rests on. -/
import Derived.RegionTactic
import Derived.Test.YtdmjfemodihfhaaGreatProg
import Derived.WalkKit
import Derived.WalkSpells
import Derived.OpenShut
import Derived.Laws.BitsAllLaws
import Derived.Laws.Pointers
import Derived.Laws.LoneSync
import Derived.Laws.NewBlocks
import Derived.Lib.Builder
import Derived.RegionCalls
import Derived.Deep.DeepCutAuto
import Derived.Deep.RegionWith
import Derived.Deep.QuietTactic
import Derived.Deep.RegionHeld3
import Derived.Maps.AppendAt
import Derived.Test.YtdmjfemodihfhaaGreatPkL01
set_option maxHeartbeats 64000000
set_option maxRecDepth 100000
namespace Go.Proofs.YtdmjfemodihfhaaGreat
set_option maxRecDepth 100000
open Go.RowKit
def bT (n at_:Int) (x:Nat):Int:=if n<0∨65536<n then 2 else if x=0∨at_<0∨8*n<at_+PM.bl x then 30 else 0
theorem nJ {n at_:Int} {x:Nat} (h:n<0∨65536<n):bT n at_ x=2:=by unfold bT;rw[if_pos h]
theorem nE {n at_:Int} {x:Nat} (h:¬ (n<0∨65536<n)) (h2:x=0∨at_<0∨8*n<at_+PM.bl x):bT n at_ x=30:=by unfold bT;rw[if_neg h,if_pos h2]
theorem tN {n at_:Int} {x:Nat} (h:¬ (n<0∨65536<n)) (h2:¬ (x=0∨at_<0∨8*n<at_+PM.bl x)):bT n at_ x=0:=by unfold bT;rw[if_neg h,if_neg h2]
theorem mq {n at_:Int} {x:Nat} (h:bT n at_ x≠0):(n<0∨65536<n)∨(¬ (n<0∨65536<n)∧(x=0∨at_<0∨8*n<at_+PM.bl x)):=by
 by_cases h1:n<0∨65536<n
 ·exact .inl h1
 ·by_cases h2:x=0∨at_<0∨8*n<at_+PM.bl x
  ·exact .inr ⟨h1,h2⟩
  ·exact absurd (tN h1 h2) h
def yY (B:Nat) (w':World) (n at_ x:Nat) (v:Value):Prop:=
 ∃ f,w'.ownsRow B 5 1 v n (CB f n)∧(∀ i,i<n→f i<256)∧∀ k,k<8*n→PM.fb f k=PM.ly at_ (PM.bl x) x (PM.bl x) k
theorem tU (n at_:Int) (x:Nat) (w:World) (hx:x<4294967296) (hn : -9223372036854775808≤n∧n<9223372036854775808) (ha : -9223372036854775808≤at_∧at_<9223372036854775808) (h:bT n at_ x≠0) :
  Calls Tryz.prog 123 #[.int .i64 n,.int .i64 at_,.int .u32 x] w fun e w'=>e=.returned (.tuple #[.slice none 0 0,.int .i64 (bT n at_ x)])∧w'=w:=by
 have hL:=kX x w hx
 have hbl:=PM.bl_le (n:=x) (k:=32) (by omega)
 rcases mq h with h1 | ⟨h1,h2⟩
 ·rw[nJ h1]
  clear h hL
  by_cases hn0:n<0
  ·go_enter Tryz.func123,Tryz.ntmps123
   go_wp2
   go_ret2
   exact⟨rfl,rfl⟩
  ·have hn1:65536<n:=by omega
   clear h1
   go_enter Tryz.func123,Tryz.ntmps123
   go_wp2
   go_ret2
   exact⟨rfl,rfl⟩
 ·rw[nE h1 h2]
  have hn0:0≤n:=by omega
  have hn1:n≤65536:=by omega
  clear h h1
  by_cases hx0:x=0
  ·subst hx0
   clear h2
   rw[PM.bl_zero]at hL
   go_enter Tryz.func123,Tryz.ntmps123
   go_wp2_with (go_at_call 147;refine hL.mono ?_;rintro e w' ⟨rfl,rfl⟩)
   go_ret2
   exact⟨rfl,rfl⟩
  ·have hxn:((x:Int) == 0)=false:=by simp;omega
   generalize PM.bl x=s at *
   by_cases ha0:at_<0
   ·clear h2
    go_enter Tryz.func123,Tryz.ntmps123
    go_wp2_with (go_at_call 147;refine hL.mono ?_;rintro e w' ⟨rfl,rfl⟩)
    go_ret2
    exact⟨rfl,rfl⟩
   ·have hg:8*n - (s:Int)<at_:=by omega
    clear h2
    go_enter Tryz.func123,Tryz.ntmps123
    go_wp2_with (go_at_call 147;refine hL.mono ?_;rintro e w' ⟨rfl,rfl⟩)
    go_ret2
    exact⟨rfl,rfl⟩
theorem aag (x k:Nat):bits .and .u8 ((x:Int) / 2 ^ k % 256) 1=((x.testBit k).toNat:Int):=by
 have e:(x:Int) / 2 ^ k=((x >>> k:Nat):Int):=by rw[Nat.shiftRight_eq_div_pow];simp
 have h:=u8_and_nat (x >>> k % 256) 1 (Nat.mod_lt _ (by omega)) (by omega)
 rw[nat_mask1,Nat.mod_mod_of_dvd _ (by decide),uR]at h
 rw[e,← h];rfl
theorem rT (n at_ x:Nat) (w:World) (hx:x<4294967296) (hx0:x≠0) (hn:n≤65536) (hfit:at_+PM.bl x≤8*n) :
  Calls Tryz.prog 123 #[.int .i64 n,.int .i64 at_,.int .u32 x] w fun e w'=>∃ v,e=.returned (.tuple #[v,.int .i64 0])∧Hid (Below w.heap.size w w'∧yY w.heap.size w' n at_ x v):=by
 obtain⟨i0,hi,hz0,hz1,hz2⟩:=info_parts bQ
 have hL:=kX x w hx
 have hbl:=PM.bl_le (n:=x) (k:=32) (by omega)
 have hbit:=fun k=>aag x k
 have hpos:0<PM.bl x:=by rw[PM.bl_pos hx0];omega
 have hxn:((x:Int) == 0)=false:=by simp;omega
 have hd1:decide ((8:Int) * (n:Int) - (PM.bl x:Int) < (at_:Int))=false:=by simp;omega
 unfold yY
 generalize PM.bl x=s at *
 go_enter Tryz.func123,Tryz.ntmps123
 go_wp2_with (first | (go_at_call 147;refine hL.mono ?_;rintro e w ⟨rfl,rfl⟩) | (at_make;refine aX _ rfl (.tmp 35) (.tmp 35) 37 rfl w.heap.size 5 i0 Tryz.underlying37 hi hz0 hz1 hz2 _ _ _ _ n n rfl rfl rfl rfl (Nat.le_refl _) (by omega) (Nat.le_refl _) ?_))
 intro w1 hown1 hbel1
 clear hL
 go_wp2_with fail
 go_loopw [10,11,12,38] (fun _ _ _ c wr=>∃ i f,i≤s∧c=.int .i64 ((i:Nat):Int)∧wr.ownsRow w.heap.size 5 1 (.slice (some ⟨w.heap.size,0,none⟩) n n) n (CB f n)∧(∀ i,i<n→f i<256)∧(∀ k,PM.fb f k=PM.ly at_ s x i k)∧Below w.heap.size w wr) (fun _ _ _ c _=>s - (intOf c).toNat)
 case atStart=>exact⟨0,fun _=>0,by omega,rfl,hown1,fun i _=>by show 0<256;omega,fun k=>by rw[PM.ly_zero];unfold PM.fb;exact Nat.zero_testBit _,hbel1⟩
 case round=>
  clear hown1 hbel1
  obtain⟨i,f,hi2,rfl,hown,hfb,hfV,hbel⟩:=hrel
  by_cases hlt:i<s
  ·have t1:=hbit (s-1-i)
   clear hbit
   obtain⟨k,hk⟩:∃ k,k=at_+i:=⟨_,rfl⟩
   have hk1:(at_:Int) + (i:Int)=(k:Int):=by omega
   obtain⟨q,hq⟩:∃ q,q=k / 8:=⟨_,rfl⟩
   obtain⟨m,hm⟩:∃ m,m=k % 8:=⟨_,rfl⟩
   have hq1:(k:Int) / 8=(q:Int):=by omega
   have hm1:(k:Int) % 8=(m:Int):=by omega
   have hq2:(k:Int).tdiv 8=(q:Int):=by rw[Int.tdiv_eq_ediv_of_nonneg (by omega)];exact hq1
   have hm2:(k:Int).tmod 8=(m:Int):=by rw[Int.tmod_eq_emod_of_nonneg (by omega)];exact hm1
   have hql:q<n:=by omega
   have hm8:m<8:=by omega
   have hcx:=hown.cellAt q (by omega)
   rw[aL _ n _ hql]at hcx
   have hfx:=hown.frozenAt q
   have hfq:=hfb q hql
   have HV:Hid (∀ k,PM.fb f k=PM.ly at_ s x i k):=hfV
   have HO:Hid (_):=And.intro hown (And.intro hfb hbel)
   clear hfV hown hfb hbel
   have HS:Hid (∀ j,PM.ly at_ s x (i+1) j=(PM.ly at_ s x i j || (decide (j=at_+i) && x.testBit (s-1-i)))):=fun j=>PM.ly_succ at_ s x i j
   generalize x.testBit (s-1-i)=bb at *
   obtain⟨y1,hy1⟩:∃ y,y=bb.toNat:=⟨_,rfl⟩
   have hy2:y1≤1:=by rw[hy1];exact Bool.toNat_le bb
   rw[← hy1]at t1
   obtain⟨d,hd⟩:∃ d,d=7-m:=⟨_,rfl⟩
   have hd7:(7:Int) - (m:Int)=(d:Int):=by omega
   have hdl:d≤7:=by omega
   obtain⟨z,hz⟩:∃ z,z=y1*2 ^ d:=⟨_,rfl⟩
   have hzl:z<256:=by
    have h1:2 ^ d≤2 ^ 7:=Nat.pow_le_pow_right (by omega) hdl
    have h2:=Nat.mul_le_mul hy2 h1
    rw[hz];omega
   have hsh:(y1:Int)*2 ^ d % 256=(z:Int):=by
    have e:(y1:Int)*2 ^ d=(z:Int):=by rw[hz];simp
    rw[e];omega
   have hor:=u8_or_nat (f q) z hfq hzl
   obtain⟨y,hy⟩:∃ y,y=f q ||| z:=⟨_,rfl⟩
   rw[← hy]at hor
   have hol:∀ j,(if j=q then y else f j)=PM.ol f k bb j:=fun j=>by
    unfold PM.ol;rw[hy,hz,hq,hd,hm,hy1]
   have HO2:Hid ((wr.drew.setCell ⟨w.heap.size,q,none⟩ (.int .u8 ((y:Nat):Int))).ownsRow w.heap.size 5 1 (.slice (some ⟨w.heap.size,0,none⟩) n n) n (CB (PM.ol f k bb) n)∧(∀ i,i<n→PM.ol f k bb i<256)∧(∀ j,PM.fb (PM.ol f k bb) j=PM.ly at_ s x (i+1) j)∧Below w.heap.size w (wr.drew.setCell ⟨w.heap.size,q,none⟩ (.int .u8 ((y:Nat):Int)))):=by
    refine⟨?_,PM.ol_lt HO.out.2.1 k bb (by omega),fun j=>?_,HO.out.2.2.drew.setCell (p:=⟨w.heap.size,q,none⟩) (Nat.le_refl _) _⟩
    ·have h:=((show wr.drew.ownsRow w.heap.size 5 1 (.slice (some ⟨w.heap.size,0,none⟩) n n) n (CB f n) from HO.out.1).stored q (.int .u8 ((y:Nat):Int))).1
     rw[eT,dy _ (PM.ol f k bb) n (fun i _=>hol i)]at h
     exact h
    ·rw[PM.ol_fb,HV.out,HS.out,hk]
   clear hk hq hm hy1 hd hz hol HV HO HS hy hy2
   generalize f q=g at *
   go_wp2_with fail
   go_region
   all_goals (go_wp2_with fail;go_roundw)
   case rel=>exact⟨i+1,PM.ol f k bb,by omega,by go_num,HO2.out.1,HO2.out.2.1,HO2.out.2.2.1,HO2.out.2.2.2⟩
   case measure=>simp[intOf] <;> omega
  ·obtain rfl:i=s:=by omega
   have HO:Hid (_):=And.intro hbel (And.intro hown (And.intro hfb hfV))
   clear hbit hown hfb hfV hbel
   go_wp2
   go_ret2
   exact⟨_,rfl,HO.out.1,f,HO.out.2.1,HO.out.2.2.1,fun k _=>HO.out.2.2.2 k⟩
def xr (f g:Nat→Nat) (i:Nat):Nat:=f i ^^^ g i
theorem wV {f g:Nat→Nat} {n:Nat} (hf:∀ i,i<n→f i<256) (hg:∀ i,i<n→g i<256):∀ i,i<n→xr f g i<256:=fun i hi=>PM.xor_lt8 (hf i hi) (hg i hi)
theorem rs (a0 a1:Option Addr) (n c0 c1:Nat) (f g:Nat→Nat) (w:World) (r0:Row8 w a0 n c0 f) (r1:Row8 w a1 n c1 g) (hn:n≤1000000) :
  Calls Tryz.prog 124 #[.slice a0 n c0,.slice a1 n c1] w fun e w'=>∃ c,e=.returned (.tuple #[.slice (some ⟨w.heap.size,0,none⟩) n c,.int .i64 0])∧Hid (Below w.heap.size w w'∧w'.ownsRow w.heap.size 5 1 (.slice (some ⟨w.heap.size,0,none⟩) n c) n (CB (xr f g) n)):=by
 obtain⟨i0,hi,hz0,hz1,hz2⟩:=info_parts bQ
 have hne:((n:Int) != (n:Int))=false:=by simp
 go_enter Tryz.func124,Tryz.ntmps124
 go_wp2_with (at_make;refine aX _ rfl (.tmp 15) (.tmp 15) 37 rfl w.heap.size 5 i0 Tryz.underlying37 hi hz0 hz1 hz2 _ _ _ _ n n rfl rfl rfl rfl (Nat.le_refl _) (by omega) (Nat.le_refl _) ?_)
 intro w1 hown1 hbel1
 go_wp2_with fail
 go_loopw [7,8,19] (fun _ _ c wr=>∃ i h,i≤n∧c=.int .i64 ((i:Nat):Int)∧wr.ownsRow w.heap.size 5 1 (.slice (some ⟨w.heap.size,0,none⟩) n n) n (CB h n)∧(∀ j,j<i→h j=xr f g j)∧Below w.heap.size w wr) (fun _ _ c _=>n - (intOf c).toNat)
 case atStart=>exact⟨0,fun _=>0,by omega,rfl,hown1,fun j hj=>by omega,hbel1⟩
 case round=>
  clear hown1 hbel1
  obtain⟨i,h,hi2,rfl,hown,hh,hbel⟩:=hrel
  by_cases hlt:i<n
  ·obtain⟨b0,o0,rfl,hb0,q0⟩:=r0.plain (by omega)
   obtain⟨b1,o1,rfl,hb1,q1⟩:=r1.plain (by omega)
   obtain⟨l0,s0⟩:=q0 i hlt
   obtain⟨l1,s1⟩:=q1 i hlt
   have d0:=(hbel.cell (p:=⟨b0,o0+i,none⟩) hb0).trans s0
   have d1:=(hbel.cell (p:=⟨b1,o1+i,none⟩) hb1).trans s1
   have hcx:=hown.cellAt i (by omega)
   rw[aL _ n _ hlt]at hcx
   have hfx:=hown.frozenAt i
   have hX:=u8_xor_nat (f i) (g i) l0 l1
   have HO:Hid ((wr.setCell ⟨w.heap.size,i,none⟩ (.int .u8 ((f i ^^^ g i:Nat):Int))).ownsRow w.heap.size 5 1 (.slice (some ⟨w.heap.size,0,none⟩) n n) n (CB (fun j=>if j=i then f i ^^^ g i else h j) n)∧(∀ j,j<i+1→(if j=i then f i ^^^ g i else h j)=xr f g j)∧Below w.heap.size w (wr.setCell ⟨w.heap.size,i,none⟩ (.int .u8 ((f i ^^^ g i:Nat):Int)))):=by
    refine⟨?_,fun j hj=>?_,hbel.setCell (p:=⟨w.heap.size,i,none⟩) (Nat.le_refl _) _⟩
    ·have h:=(hown.stored i (.int .u8 ((f i ^^^ g i:Nat):Int))).1
     rw[eT]at h
     exact h
    ·by_cases e:j=i
     ·rw[if_pos e,e];rfl
     ·rw[if_neg e];exact hh j (by omega)
   clear hown hh hbel r0 r1 q0 q1 s0 s1
   generalize f i ^^^ g i=y at *
   generalize f i=x0 at *
   generalize g i=x1 at *
   go_wp2
   go_roundw
   case rel=>exact⟨i+1,_,by omega,by go_num,HO.out.1,HO.out.2.1,HO.out.2.2⟩
   case measure=>simp[intOf] <;> omega
  ·obtain rfl:i=n:=by omega
   have HO:Hid (Below w.heap.size w wr∧wr.ownsRow w.heap.size 5 1 (.slice (some ⟨w.heap.size,0,none⟩) i i) i (CB (xr f g) i)):=⟨hbel,by rw[← dy h (xr f g) i hh];exact hown⟩
   clear hown hh hbel r0 r1
   go_wp2
   go_ret2
   exact⟨i,rfl,HO⟩
section
variable {P:Program} {f:FuncId} {fn:Func}
theorem gT (hf : P.funcs[f]? = some fn) (hname : (fn.name == "runtime.NumGoroutine") = false) (hb : fn.body.isNone = true) (hn : Extern.findNext fn = none)
  (he:Extern.find fn=some (Extern.Atomic.loadT .ptr)) {a:Addr} {p:Option Addr} {w:World} (hc:w.cell? a=some (.pointer p)) :
  (callFunc f #[.pointer (some a)]).run P w=.ok (.value (.pointer p)) w:=by
 rw[run_callFunc_extern hf hname hb hn he]
 change (Sem.run P (do Extern.Atomic.read .ptr (← asAddr (.pointer (some a)))) w).andThen _=_
 simp[Extern.Atomic.read,asAddr,hc,Result.andThen]
theorem fL (p:Option Addr) (w:World):(samePointer p p).run P w=.ok true w:=by
 cases p <;> simp[samePointer,sameAddr]
theorem ip (hf : P.funcs[f]? = some fn) (hname : (fn.name == "runtime.NumGoroutine") = false) (hb : fn.body.isNone = true) (hn : Extern.findNext fn = none)
  (he:Extern.find fn=some (Extern.Atomic.casT .ptr)) {a:Addr} {x y:Option Addr} {w:World} (hc:w.cell? a=some (.pointer x)) (hz:w.frozen? a=false) :
  (callFunc f #[.pointer (some a),.pointer x,.pointer y]).run P w=.ok (.value (.bool true)) (w.setCell a (.pointer y)):=by
 rw[run_callFunc_extern hf hname hb hn he]
 change (Sem.run P (do
  let a' ← asAddr (.pointer (some a))
  if ← Extern.Atomic.touchesFrozen a' then unsupported (.unsafePointer "a write to bytes that a string shares")
  let eq ← match Extern.Atomic.T.ptr,← Extern.Atomic.read .ptr a',Value.pointer x with
   | _,.int _ x,.int _ y=>pure (x == y)
   | .ptr,.pointer x,.pointer y=>samePointer x y
   | .int _,.pointer (some _),.int _ 0 | .int _,.int _ 0,.pointer (some _)=>pure false
   | .int _,.pointer (some _),_ | .int _,_,.pointer (some _)=>unsupported .addressObserved
   | _, _, _ => stuck "atomic.CompareAndSwap: old is no T"
  if eq then store a' (.pointer y) .atomic
  pure (Value.bool eq)) w).andThen _=_
 simp[Extern.Atomic.touchesFrozen,Extern.Atomic.read,asAddr,viewAt,World.shape?_isSome_of_cell? hc,hc,hz,fL,run_store P w a (.pointer y) .atomic rfl,Result.andThen]
end
theorem tX (a:Addr) (d:Int) (w:World) (h0:w.cell? a=some (.int .u64 d)) :
  Calls Tryz.prog 158 #[.pointer (some a)] w fun e w'=>e=.returned (.int .u64 d)∧w'=w:=by
 have hl:=run_call_load (P:=Tryz.prog) Tryz.func193 (by kernel_rfl) (by kernel_rfl) (by kernel_rfl) .u64 (by kernel_rfl) h0
 go_enter Tryz.func158,Tryz.ntmps158
 go_wp2
 go_ret
 exact⟨rfl,rfl⟩
theorem vT (a:Addr) (x y:Int) (w:World) (h0:w.cell? a=some (.int .u64 x)) (hz:w.frozen? a=false) :
  Calls Tryz.prog 160 #[.pointer (some a),.int .u64 x,.int .u64 y] w fun e w'=>e=.returned (.bool true)∧w'=w.setCell a (.int .u64 y):=by
 have hl:=run_call_cas_hit (P:=Tryz.prog) Tryz.func194 (by kernel_rfl) (by kernel_rfl) (by kernel_rfl) .u64 (by kernel_rfl) (y:=y) h0 hz
 go_enter Tryz.func160,Tryz.ntmps160
 go_wp2
 go_ret
 exact⟨rfl,rfl⟩
theorem mI (a:Addr) (d:Int) (w:World) (h0:w.cell? a=some (.int .i64 d)) :
  Calls Tryz.prog 90 #[.pointer (some a)] w fun e w'=>e=.returned (.int .i64 d)∧w'=w:=by
 have hl:=run_call_load (P:=Tryz.prog) Tryz.func113 (by kernel_rfl) (by kernel_rfl) (by kernel_rfl) .i64 (by kernel_rfl) h0
 go_enter Tryz.func90,Tryz.ntmps90
 go_wp2
 go_ret
 exact⟨rfl,rfl⟩
theorem wC (a:Addr) (x y:Int) (w:World) (h0:w.cell? a=some (.int .i64 x)) (hz:w.frozen? a=false) :
  Calls Tryz.prog 260 #[.pointer (some a),.int .i64 x,.int .i64 y] w fun e w'=>e=.returned (.bool true)∧w'=w.setCell a (.int .i64 y):=by
 have hl:=run_call_cas_hit (P:=Tryz.prog) Tryz.func261 (by kernel_rfl) (by kernel_rfl) (by kernel_rfl) .i64 (by kernel_rfl) (y:=y) h0 hz
 go_enter Tryz.func260,Tryz.ntmps260
 go_wp2
 go_ret
 exact⟨rfl,rfl⟩
theorem rj (a:Addr) (x y:Int) (w:World) (h0:w.cell? a=some (.int .i64 x)) (hz:w.frozen? a=false) :
  Calls Tryz.prog 220 #[.pointer (some a),.int .i64 y] w fun e w'=>e=.returned (.tuple #[])∧w'=w.setCell a (.int .i64 y):=by
 have hl:=run_call_store (P:=Tryz.prog) Tryz.func231 (by kernel_rfl) (by kernel_rfl) (by kernel_rfl) (by kernel_rfl) (k:=.i64) (y:=y) h0 hz
 go_enter Tryz.func220,Tryz.ntmps220
 go_wp2
 go_end0
 exact⟨rfl,rfl⟩
theorem iA (a:Addr) (p:Option Addr) (w:World) (h0:w.cell? a=some (.pointer p)) (hcv:(convert 167 165 (.pointer p)).run Tryz.prog w=.ok (.pointer p) w) :
  Calls Tryz.prog 161 #[.pointer (some a)] w fun e w'=>e=.returned (.pointer p)∧w'=w:=by
 have hl:=gT (P:=Tryz.prog) Tryz.func195 (by kernel_rfl) (by kernel_rfl) (by kernel_rfl) (by kernel_rfl) h0
 go_enter Tryz.func161,Tryz.ntmps161
 go_wp2
 go_ret
 exact⟨rfl,rfl⟩
theorem mw (a:Addr) (p q:Option Addr) (w:World) (h0:w.cell? a=some (.pointer p)) (hz:w.frozen? a=false) (hcp:(convert 165 167 (.pointer p)).run Tryz.prog w=.ok (.pointer p) w)
  (hcq:(convert 165 167 (.pointer q)).run Tryz.prog w=.ok (.pointer q) w) :
  Calls Tryz.prog 162 #[.pointer (some a),.pointer p,.pointer q] w fun e w'=>e=.returned (.bool true)∧w'=w.setCell a (.pointer q):=by
 have hl:=ip (P:=Tryz.prog) Tryz.func196 (by kernel_rfl) (by kernel_rfl) (by kernel_rfl) (by kernel_rfl) (y:=q) h0 hz
 go_enter Tryz.func162,Tryz.ntmps162
 go_wp2
 go_ret
 exact⟨rfl,rfl⟩
end Go.Proofs.YtdmjfemodihfhaaGreat
namespace Go.Proofs.YtdmjfemodihfhaaGreat
set_option maxRecDepth 100000
open Go.RowKit
structure Off (l:List Nat) (w w':World):Prop where
 os:w'.os=w.os
 tape:w'.tape=w.tape
 output:w'.output=w.output
 size:w.heap.size≤w'.heap.size
 block:∀ k,k<w.heap.size→k ∉ l→w'.heap[k]?=w.heap[k]?
theorem Off.refl (l:List Nat) (w:World):Off l w w:=⟨rfl,rfl,rfl,Nat.le_refl _,fun _ _ _=>rfl⟩
theorem Off.trans {l:List Nat} {u v w:World} (h:Off l u v) (k:Off l v w):Off l u w:=
 ⟨k.os.trans h.os,k.tape.trans h.tape,k.output.trans h.output,Nat.le_trans h.size k.size,fun i hi hb=>(k.block i (Nat.lt_of_lt_of_le hi h.size) hb).trans (h.block i hi hb)⟩
theorem Off.of_below {l:List Nat} {w w':World} (h:Below w.heap.size w w'):Off l w w':=⟨h.os,h.tape,h.output,h.size,fun k hk _=>h.block k hk⟩
theorem Off.more {l m:List Nat} {w w':World} (h:Off l w w') (hs:∀ k,k ∈ l→k ∈ m):Off m w w':=⟨h.os,h.tape,h.output,h.size,fun k hk hb=>h.block k hk fun hm=>hb (hs k hm)⟩
theorem Off.only {l m:List Nat} {w w':World} (h:Off l w w') (hs:∀ k,k ∈ l→k<w.heap.size→k ∈ m):Off m w w':=⟨h.os,h.tape,h.output,h.size,fun k hk hb=>h.block k hk fun hm=>hb (hs k hm hk)⟩
theorem Off.setCell (b i:Nat) (w:World) (v:Value):Off [b] w (w.setCell ⟨b,i,none⟩ v):=⟨rfl,rfl,rfl,by simp[World.setCell],fun k _ hb=>heap_setCell_other w _ k v (by simpa using hb)⟩
theorem Off.alloc (l:List Nat) (w:World) (o:Obj):Off l w (w.alloc o):=Off.of_below ((Below.refl _ _).alloc (Nat.le_refl _) _)
theorem Off.drew (l:List Nat) (w:World):Off l w w.drew:=⟨rfl,rfl,rfl,Nat.le_refl _,fun _ _ _=>rfl⟩
theorem Off.drewN (l:List Nat) (w:World) (n:Nat):Off l w (w.drewN n):=⟨rfl,rfl,rfl,Nat.le_refl _,fun _ _ _=>rfl⟩
theorem Off.below {l:List Nat} {B:Nat} {w0 w w':World} (h:Off l w w') (hb:Below B w0 w) (hB:∀ k,k ∈ l→B≤k) (hs:B≤w.heap.size):Below B w0 w':=
 hb.trans ⟨h.os,h.tape,h.output,h.size,fun k hk=>h.block k (by omega) (fun hm=>by have:=hB k hm;omega)⟩
def sM (t:Int) (p:Option Addr) (f:Int) (o:Int) (r:Option Addr):Array Value:=#[.int .u64 t,.pointer p,.int .u32 f,.int .u32 o,.pointer r]
structure Met (w:World) (b:Nat) (t:Int) (p:Option Addr) (f:Int) (o:Int) (r:Option Addr):Prop where
 at_:w.heap[b]?=some (.cells (sM t p f o r) 178 (0,0))
theorem Met.lt {w:World} {b:Nat} {t f o:Int} {p r:Option Addr} (h:Met w b t p f o r):b<w.heap.size:=(Array.getElem?_eq_some_iff.1 h.at_).1
theorem Met.c0 {w:World} {b:Nat} {t f o:Int} {p r:Option Addr} (h:Met w b t p f o r):w.cell? ⟨b,0,none⟩=some (.int .u64 t):=ac w b 0 _ _ _ h.at_
theorem Met.c1 {w:World} {b:Nat} {t f o:Int} {p r:Option Addr} (h:Met w b t p f o r):w.cell? ⟨b,1,none⟩=some (.pointer p):=ac w b 1 _ _ _ h.at_
theorem Met.fz {w:World} {b:Nat} {t f o:Int} {p r:Option Addr} (h:Met w b t p f o r) (j:Nat):w.frozen? ⟨b,j,none⟩=false:=frozen_of_row w b j _ _ h.at_
theorem Met.off {l:List Nat} {w w':World} {b:Nat} {t f o:Int} {p r:Option Addr} (h:Met w b t p f o r) (k:Off l w w') (hb:b ∉ l):Met w' b t p f o r:=⟨(k.block b h.lt hb).trans h.at_⟩
theorem Met.s0 {w:World} {b:Nat} {t f o:Int} {p r:Option Addr} (h:Met w b t p f o r) (t':Int):Met (w.setCell ⟨b,0,none⟩ (.int .u64 t')) b t' p f o r:=⟨heap_setCell_same _ _ _ _ _ _ h.at_⟩
theorem Met.s1 {w:World} {b:Nat} {t f o:Int} {p r:Option Addr} (h:Met w b t p f o r) (p':Option Addr):Met (w.setCell ⟨b,1,none⟩ (.pointer p')) b t p' f o r:=⟨heap_setCell_same _ _ _ _ _ _ h.at_⟩
inductive Pk (M:Nat) (w:World):Option Addr→Option Int→Prop where
 | none:Pk M w none none
 | some (c:Nat) (v:Int) (h:M≤c) (hc:w.heap[c]?=some (.cells #[.int .i64 v] 2 (0,0))):Pk M w (some ⟨c,0,Option.none⟩) (some v)
def pI (a b:Nat):Nat:=if 18446744073709551615-a<b then 18446744073709551615 else a+b
theorem lV (w:World) :
  Calls Tryz.prog 50 #[] w fun e w'=>e=.returned (.pointer (some ⟨w.heap.size,0,none⟩))∧w'=w.alloc (.cells (sM 0 none 0 0 none) 178):=by
 go_enter Tryz.func50,Tryz.ntmps50
 go_wp2
 go_ret
 exact⟨rfl,rfl⟩
theorem lR (w:World):Met (w.alloc (.cells (sM 0 none 0 0 none) 178)) w.heap.size 0 none 0 0 none:=⟨au w _⟩
theorem qK (a b:Nat) (w:World) (ha:a<18446744073709551616) (hb:b<18446744073709551616) :
  Calls Tryz.prog 159 #[.int .u64 a,.int .u64 b] w fun e w'=>e=.returned (.int .u64 (pI a b:Nat))∧w'=w:=by
 have h1:IntKind.u64.wrap (18446744073709551615 - (a:Int))=((18446744073709551615-a:Nat):Int):=by rw[IntKind.wrap_u64];omega
 by_cases hc:18446744073709551615-a<b
 ·have e:pI a b=18446744073709551615:=by unfold pI;rw[if_pos hc]
  rw[e]
  go_enter Tryz.func159,Tryz.ntmps159
  go_wp2
  go_ret
  exact⟨rfl,rfl⟩
 ·have e:pI a b=a+b:=by unfold pI;rw[if_neg hc]
  rw[e]
  have h2:IntKind.u64.wrap ((a:Int) + (b:Int))=((a+b:Nat):Int):=by rw[IntKind.wrap_u64];omega
  go_enter Tryz.func159,Tryz.ntmps159
  go_wp2
  go_ret
  refine⟨?_,rfl⟩
  first | rfl | (rw[h2]) | simp_all
theorem lT (t n b:Nat) (p r:Option Addr) (f o:Int) (w:World) (ht:t<18446744073709551616) (hn:n<18446744073709551616) (h:Met w b t p f o r) :
  Calls Tryz.prog 133 #[.pointer (some ⟨b,0,none⟩),.int .u64 n] w fun e w'=>e=.returned (.tuple #[.int .u64 (pI t n:Nat),.int .i64 0])∧w'=w.setCell ⟨b,0,none⟩ (.int .u64 (pI t n:Nat)):=by
 have h0:=h.c0
 have hz:=h.fz 0
 have hl:=tX _ _ w h0
 have hs:=qK t n w ht hn
 have hc:=vT ⟨b,0,none⟩ t (pI t n:Nat) w h0 hz
 generalize pI t n=s at *
 go_enter Tryz.func133,Tryz.ntmps133
 go_wp2_with fail
 refine wp_loop_once ?_
 go_wp2_with (first | (go_at_call 158;refine hl.mono ?_;rintro e w' ⟨rfl,rfl⟩) | (go_at_call 159;refine hs.mono ?_;rintro e w' ⟨rfl,rfl⟩) | (go_at_call 160;refine hc.mono ?_;rintro e w' ⟨rfl,rfl⟩))
 go_ret2
 exact⟨rfl,rfl⟩
theorem lM (w:World) (c:Nat) (cs:Array Value) (t:TypeId) (fr:Nat × Nat) (h:w.heap[c]?=some (.cells cs t fr)):w.shape? c=some (t,cs.size):=by
 simp[World.shape?,h]
theorem um (w:World):(convert 167 165 (.pointer none)).run Tryz.prog w=.ok (.pointer none) w:=by kernel_rfl
theorem rE (w:World):(convert 165 167 (.pointer none)).run Tryz.prog w=.ok (.pointer none) w:=by kernel_rfl
theorem nd (c:Nat) (v:Value) (w:World) (hc:w.heap[c]?=some (.cells #[v] 2 (0,0))):(convert 167 165 (.pointer (some ⟨c,0,none⟩))).run Tryz.prog w=.ok (.pointer (some ⟨c,0,none⟩)) w:=
 Lib.run_from_unsafe (u:=2) (j:=(Tryz.prog.info? 2).get!) w ⟨c,0,none⟩ (by kernel_rfl) (by kernel_rfl) (by kernel_rfl) (lM w c _ _ _ hc) (by kernel_rfl)
theorem oj (c:Nat) (v:Value) (w:World) (hc:w.heap[c]?=some (.cells #[v] 2 (0,0))):(convert 165 167 (.pointer (some ⟨c,0,none⟩))).run Tryz.prog w=.ok (.pointer (some ⟨c,0,none⟩)) w:=
 run_convert_to_unsafe (t:=2) (by kernel_rfl) (by kernel_rfl) (by kernel_rfl) (ac w c 0 _ _ _ hc)
theorem nD (t:Int) (b:Nat) (r:Option Addr) (f o v:Int) (w:World) (h:Met w b t none f o r) :
  Calls Tryz.prog 134 #[.pointer (some ⟨b,0,none⟩),.int .i64 v] w fun e w'=>e=.returned (.bool true)∧∃ n,w'=((w.alloc (.cells #[.int .i64 v] 2)).drewN n).setCell ⟨b,1,none⟩ (.pointer (some ⟨w.heap.size,0,none⟩)):=by
 have h1:Met (w.alloc (.cells #[.int .i64 v] 2)) b t none f o r:=h.off (Off.alloc [] w _) (by simp)
 have hl:=iA _ _ _ h1.c1 (um _)
 have hc:∀ n,_:=fun n=>mw ⟨b,1,none⟩ none (some ⟨w.heap.size,0,none⟩) ((w.alloc (.cells #[.int .i64 v] 2)).drewN n) h1.c1 (h1.fz 1) (rE _) (oj w.heap.size (.int .i64 v) _ (au w _))
 clear h1 h
 go_enter Tryz.func134,Tryz.ntmps134
 go_wp2_with fail
 refine wp_loop_once ?_
 go_wp2_with (go_at_call 161;refine hl.mono ?_;rintro e w' ⟨rfl,rfl⟩)
 go_quiet (fail)
 go_wp2_with (go_at_call 162;refine (hc nq).mono ?_;rintro e w' ⟨rfl,rfl⟩)
 go_ret
 exact⟨rfl,_,rfl⟩
theorem sZ (t:Int) (b c:Nat) (r:Option Addr) (f o x v:Int) (w:World) (h:Met w b t (some ⟨c,0,none⟩) f o r) (hc:w.heap[c]?=some (.cells #[.int .i64 x] 2 (0,0))) (hlt:x<v) :
  Calls Tryz.prog 134 #[.pointer (some ⟨b,0,none⟩),.int .i64 v] w fun e w'=>e=.returned (.bool true)∧∃ n,w'=((w.alloc (.cells #[.int .i64 v] 2)).drewN n).setCell ⟨b,1,none⟩ (.pointer (some ⟨w.heap.size,0,none⟩)):=by
 have h1:Met (w.alloc (.cells #[.int .i64 v] 2)) b t (some ⟨c,0,none⟩) f o r:=h.off (Off.alloc [] w _) (by simp)
 have hc1:(w.alloc (.cells #[.int .i64 v] 2)).heap[c]?=some (.cells #[.int .i64 x] 2 (0,0)):=(heap_alloc_old w _ (Array.getElem?_eq_some_iff.1 hc).1).trans hc
 have hl:=iA _ _ _ h1.c1 (nd c _ _ hc1)
 have hcs:∀ n,_:=fun n=>mw ⟨b,1,none⟩ (some ⟨c,0,none⟩) (some ⟨w.heap.size,0,none⟩) ((w.alloc (.cells #[.int .i64 v] 2)).drewN n) h1.c1 (h1.fz 1) (oj c _ _ hc1) (oj w.heap.size (.int .i64 v) _ (au w _))
 have hcell:=ac _ c 0 _ _ _ hc1
 simp at hcell
 have hle:¬ v≤x:=by omega
 clear h1 h hc hc1
 go_enter Tryz.func134,Tryz.ntmps134
 go_wp2_with fail
 refine wp_loop_once ?_
 go_wp2_with (go_at_call 161;refine hl.mono ?_;rintro e w' ⟨rfl,rfl⟩)
 go_quiet (fail)
 go_wp2_with (go_at_call 162;refine (hcs nq).mono ?_;rintro e w' ⟨rfl,rfl⟩)
 go_ret
 exact⟨rfl,_,rfl⟩
theorem uu (t:Int) (b c:Nat) (r:Option Addr) (f o x v:Int) (w:World) (h:Met w b t (some ⟨c,0,none⟩) f o r) (hc:w.heap[c]?=some (.cells #[.int .i64 x] 2 (0,0))) (hle:v≤x) :
  Calls Tryz.prog 134 #[.pointer (some ⟨b,0,none⟩),.int .i64 v] w fun e w'=>e=.returned (.bool false)∧∃ n,w'=(w.alloc (.cells #[.int .i64 v] 2)).drewN n:=by
 have h1:Met (w.alloc (.cells #[.int .i64 v] 2)) b t (some ⟨c,0,none⟩) f o r:=h.off (Off.alloc [] w _) (by simp)
 have hc1:(w.alloc (.cells #[.int .i64 v] 2)).heap[c]?=some (.cells #[.int .i64 x] 2 (0,0)):=(heap_alloc_old w _ (Array.getElem?_eq_some_iff.1 hc).1).trans hc
 have hl:=iA _ _ _ h1.c1 (nd c _ _ hc1)
 have hcell:=ac _ c 0 _ _ _ hc1
 simp at hcell
 clear h1 h hc hc1
 go_enter Tryz.func134,Tryz.ntmps134
 go_wp2_with fail
 refine wp_loop_once ?_
 go_wp2_with (go_at_call 161;refine hl.mono ?_;rintro e w' ⟨rfl,rfl⟩)
 go_quiet (fail)
 go_wp2_with fail
 go_ret
 exact⟨rfl,_,rfl⟩
open Go.RowKit Go.Maps
abbrev fh:=Nat × (Nat→Nat)
def eZ (L:List fh):Nat:=L.foldl (fun n f=>n+f.1) 0
def oK (L:List fh):Option Int:=L.foldl (fun q f=>if q.all (fun x=>decide (x < (f.1:Int))) then some (f.1:Int) else q) none
theorem tP (L:List fh) (f:fh):eZ (L ++ [f])=eZ L+f.1:=by simp[eZ]
theorem wi (L:List fh) (f:fh):oK (L ++ [f])=if (oK L).all (fun x=>decide (x < (f.1:Int))) then some (f.1:Int) else oK L:=by unfold oK;rw[List.foldl_append];rfl
theorem uW {L:List fh} (h:∀ f,f ∈ L→f.1≤27):eZ L≤27*L.length:=by
 have key:∀ (M:List fh) (n:Nat),(∀ f,f ∈ M→f.1≤27)→M.foldl (fun n f=>n+f.1) n≤n+27*M.length:=by
  intro M
  induction M with
  | nil=>intro n _;simp
  | cons f M ih=>
   intro n hM
   have h1:=hM f (List.mem_cons_self ..)
   have h2:=ih (n+f.1) (fun g hg=>hM g (List.mem_cons_of_mem _ hg))
   simp only[List.foldl_cons,List.length_cons]
   omega
 have:=key L 0 h
 unfold eZ
 omega
theorem fH {w w':World} {B e s n:Nat} {v:Value} {xs:List Value} (h:w.ownsRow B e s v n xs) (hk:∀ g,v.ownBlock=some g→w'.heap[g]?=w.heap[g]?):w'.ownsRow B e s v n xs:=by
 obtain⟨h0,h1 | ⟨g,cap,cur,rfl,hg,hgg,rest⟩⟩:=h
 ·exact⟨h0,.inl h1⟩
 ·exact⟨h0,.inr ⟨g,cap,cur,rfl,hg,(hk g rfl).trans hgg,rest⟩⟩
theorem aF {w:World} {B e s n:Nat} {v:Value} {xs:List Value} (h:w.ownsRow B e s v n xs) {g:Nat} (hg:v.ownBlock=some g):∃ c,w.heap[g]?=some (.cells c e (0,0)):=by
 obtain⟨h0,⟨rfl,_⟩ | ⟨g',cap,cur,rfl,_,hgg,rest⟩⟩:=h
 ·cases hg
 ·simp only[Value.ownBlock,Option.some.injEq]at hg
  subst hg
  exact⟨cur,hgg⟩
theorem kG {w:World} {B e size n:Nat} {v:Value} {xs:List Value} (h:w.ownsRow B e size v (n+1) xs):∃ g cap,v=.slice (some ⟨g,0,none⟩) (n+1) cap∧B≤g∧g<w.heap.size:=by
 rcases h.2 with ⟨_,hn⟩ | ⟨g,cap,cur,rfl,hg,hgg,rest⟩
 ·omega
 ·exact⟨g,cap,rfl,hg,(Array.getElem?_eq_some_iff.1 hgg).1⟩
theorem bI {w:World} {B e s n:Nat} {v:Value} {xs:List Value} (h:w.ownsRow B e s v n xs):∃ a cap,v=.slice a n cap:=by
 obtain⟨h0,⟨rfl,rfl⟩ | ⟨g',cap,cur,rfl,rest⟩⟩:=h
 ·exact⟨_,_,rfl⟩
 ·exact⟨_,_,rfl⟩
theorem dx {w:World} {k j:Nat} {c c':Array Value} {e e':TypeId} {f f':Nat × Nat} (h:w.heap[k]?=some (.cells c e f)) (h':w.heap[j]?=some (.cells c' e' f')) (ne:e≠e'):k≠j:=by
 rintro rfl
 rw[h]at h'
 simp only[Option.some.injEq,Obj.cells.injEq]at h'
 exact ne h'.2.1
structure Fl (B:Nat) (w:World) (v:Value) (vs:List Value) (L:List fh):Prop where
 rows:w.ownsRow B 37 1 v L.length vs
 frs:∀ (i:Nat) (f:fh),L[i]?=some f→∃ x,vs[i]?=some x∧w.ownsRow B 5 1 x f.1 (CB f.2 f.1)
 small:∀ (f:fh),f ∈ L→f.1≤27∧∀ i,i<f.1→f.2 i<256
 len:L.length≤4096
theorem Fl.keep {B:Nat} {w w':World} {v:Value} {vs:List Value} {L:List fh} (h:Fl B w v vs L) {l:List Nat} (k:Off l w w') (hl:∀ x,x ∈ l→x<w.heap.size→v.ownBlock≠some x∧∀ c f,w.heap[x]? ≠ some (.cells c 5 f)):Fl B w' v vs L:=by
 have kk:∀ {e:TypeId} {s n:Nat} {x:Value} {xs:List Value},w.ownsRow B e s x n xs→(∀ g,x.ownBlock=some g→g ∉ l)→w'.ownsRow B e s x n xs:=by
  intro e s n x xs ho hg
  refine fH ho fun g eg=>?_
  obtain⟨c,hc⟩:=aF ho eg
  exact k.block g (Array.getElem?_eq_some_iff.1 hc).1 (hg g eg)
 refine⟨kk h.rows fun g eg hm=>?_,fun i f hi=>?_,h.small,h.len⟩
 ·obtain⟨c,hc⟩:=aF h.rows eg
  exact (hl g hm (Array.getElem?_eq_some_iff.1 hc).1).1 eg
 ·obtain⟨x,hx,ho⟩:=h.frs i f hi
  refine⟨x,hx,kk ho fun g eg hm=>?_⟩
  obtain⟨c,hc⟩:=aF ho eg
  exact (hl g hm (Array.getElem?_eq_some_iff.1 hc).1).2 _ _ hc
theorem Fl.below {B:Nat} {w w':World} {v:Value} {vs:List Value} {L:List fh} (h:Fl B w v vs L) (k:Below w.heap.size w w'):Fl B w' v vs L:=h.keep (l:=[]) (Off.of_below k) (fun x hx=>by cases hx)
theorem Fl.more {B:Nat} {w wx wy:World} {v v':Value} {vs:List Value} {L:List fh} {x:Value} {n:Nat} {bs:Nat→Nat} (h:Fl B w v vs L) (hx:Below w.heap.size w wx) (ho:wx.ownsRow B 5 1 x n (CB bs n)) (h27:n≤27) (hb:∀ i,i<n→bs i<256) (hn:L.length<4096)
  (hr:wy.ownsRow B 37 1 v' (L.length+1) (vs ++ [x])) (hg:wx.grownBy wy v.ownBlock):Fl B wy v' (vs ++ [x]) (L ++ [(n,bs)]):=by
 have hvl:vs.length=L.length:=by have:=h.rows.1;omega
 have kk:∀ {n:Nat} {y:Value} {xs:List Value},wx.ownsRow B 5 1 y n xs→wy.ownsRow B 5 1 y n xs:=by
  intro n y xs hy
  refine fH hy fun g eg=>?_
  obtain⟨c,hc⟩:=aF hy eg
  refine hg.block g (Array.getElem?_eq_some_iff.1 hc).1 fun e=>?_
  obtain⟨c',hc'⟩:=aF (h.below hx).rows e.symm
  exact dx hc hc' (by decide) rfl
 refine⟨by simpa using hr,fun i f hi=>?_,fun f hf=>?_,by simp;omega⟩
 ·by_cases hlt:i<L.length
  ·rw[List.getElem?_append_left hlt]at hi
   obtain⟨y,hy,hoy⟩:=(h.below hx).frs i f hi
   exact⟨y,by rw[List.getElem?_append_left (by omega)];exact hy,kk hoy⟩
  ·have hi':=(List.getElem?_eq_some_iff.1 hi).1
   simp only[List.length_append,List.length_cons,List.length_nil]at hi'
   obtain rfl:i=L.length:=by omega
   simp only[List.getElem?_append_right (Nat.le_refl _),Nat.sub_self,List.getElem?_cons_zero,Option.some.injEq]at hi
   subst hi
   refine⟨x,?_,kk ho⟩
   rw[← hvl,List.getElem?_append_right (Nat.le_refl _),Nat.sub_self]
   rfl
 ·rcases List.mem_append.1 hf with hf | hf
  ·exact h.small f hf
  ·simp only[List.mem_singleton]at hf
   subst hf
   exact⟨h27,hb⟩
theorem Fl.at_ {B:Nat} {w:World} {v:Value} {vs:List Value} {L:List fh} (h:Fl B w v vs L) {i:Nat} {f:fh} (hi:L[i]?=some f):∃ a cap,vs[i]?=some (.slice a f.1 cap)∧Row8 w a f.1 cap f.2:=by
 obtain⟨x,hx,ho⟩:=h.frs i f hi
 have hm:f ∈ L:=List.mem_of_getElem? hi
 obtain⟨a,cap,rfl,R⟩:=aS ho (h.small f hm).2
 exact⟨a,cap,hx,R⟩
structure Bg (B:Nat) (w:World) (b m:Nat) (v:Value) (vs:List Value) (p:Option Addr) (L:List fh):Prop where
 at_:w.heap[b]?=some (.cells #[v,.pointer (some ⟨m,0,none⟩)] 116 (0,0))
 fl:Fl B w v vs L
 met:Met w m (eZ L:Nat) p 0 0 none
 pk:Pk 0 w p (oK L)
 bB:B≤b
 mB:B≤m
theorem Bg.lt {B:Nat} {w:World} {b m:Nat} {v:Value} {vs:List Value} {p:Option Addr} {L:List fh} (h:Bg B w b m v vs p L):b<w.heap.size:=(Array.getElem?_eq_some_iff.1 h.at_).1
theorem Bg.off {B:Nat} {w w':World} {b m:Nat} {v:Value} {vs:List Value} {p:Option Addr} {L:List fh} (h:Bg B w b m v vs p L) {l:List Nat} (k:Off l w w') (hl:∀ x,x ∈ l→x<w.heap.size→x≠b∧x≠m∧v.ownBlock≠some x∧∀ c f,w.heap[x]? ≠ some (.cells c 5 f)∧w.heap[x]? ≠ some (.cells c 2 f)):Bg B w' b m v vs p L:=by
 refine⟨(k.block b h.lt fun hm=>(hl b hm h.lt).1 rfl).trans h.at_,h.fl.keep k fun x hx hs=>⟨(hl x hx hs).2.2.1,fun c f=>((hl x hx hs).2.2.2 c f).1⟩,h.met.off k fun hm=>(hl m hm h.met.lt).2.1 rfl,?_,h.bB,h.mB⟩
 have hp:=h.pk
 generalize oK L=q at hp
 cases hp with
 | none=>exact .none
 | some c v' h' hc=>exact .some c v' h' ((k.block c (Array.getElem?_eq_some_iff.1 hc).1 fun hm=>((hl c hm (Array.getElem?_eq_some_iff.1 hc).1).2.2.2 _ _).2 hc).trans hc)
theorem Bg.below {B:Nat} {w w':World} {b m:Nat} {v:Value} {vs:List Value} {p:Option Addr} {L:List fh} (h:Bg B w b m v vs p L) (k:Below w.heap.size w w'):Bg B w' b m v vs p L:=h.off (l:=[]) (Off.of_below k) (fun x hx=>by cases hx)
theorem Bg.c0 {B:Nat} {w:World} {b m:Nat} {v:Value} {vs:List Value} {p:Option Addr} {L:List fh} (h:Bg B w b m v vs p L):w.cell? ⟨b,0,none⟩=some v:=ac w b 0 _ _ _ h.at_
theorem Bg.c1 {B:Nat} {w:World} {b m:Nat} {v:Value} {vs:List Value} {p:Option Addr} {L:List fh} (h:Bg B w b m v vs p L):w.cell? ⟨b,1,none⟩=some (.pointer (some ⟨m,0,none⟩)):=ac w b 1 _ _ _ h.at_
theorem td (w:World) :
  Calls Tryz.prog 28 #[] w fun e w'=>e=.returned (.pointer (some ⟨w.heap.size+1,0,none⟩))∧Hid (Below w.heap.size w w'∧Bg w.heap.size w' (w.heap.size+1) w.heap.size (.slice none 0 0) [] none []∧w'.heap.size=w.heap.size+2):=by
 have hN:=lV w
 go_enter Tryz.func28,Tryz.ntmps28
 go_wp2_with (go_at_call 50;refine hN.mono ?_;rintro e w' ⟨rfl,rfl⟩)
 go_ret
 have hs:(w.alloc (.cells (sM 0 none 0 0 none) 178)).heap.size=w.heap.size+1:=World.size_alloc _ _
 refine⟨rfl,((Below.refl _ _).alloc (Nat.le_refl _) _).alloc (by rw[hs];omega) _,⟨?_,⟨⟨rfl,.inl ⟨rfl,rfl⟩⟩,fun i f hi=>by simp at hi,fun f hf=>by simp at hf,by simp⟩,?_,.none,by omega,Nat.le_refl _⟩,by rw[World.size_alloc,hs]⟩
 ·have:=au (w.alloc (.cells (sM 0 none 0 0 none) 178)) (.cells #[.slice none 0 0,.pointer (some ⟨w.heap.size,0,none⟩)] 116)
  rw[hs]at this
  exact this
 ·exact (lR w).off (Off.alloc [] _ _) (by simp)
theorem tw (B:Nat) (b m:Nat) (v:Value) (vs:List Value) (p:Option Addr) (L:List fh) (w:World) (h:Bg B w b m v vs p L) :
  Calls Tryz.prog 41 #[.pointer (some ⟨b,0,none⟩)] w fun e w'=>e=.returned (.int .i64 (L.length:Nat))∧w'=w:=by
 have c0:=h.c0
 obtain⟨a,cap,rfl⟩:=bI h.fl.rows
 generalize L.length=n at *
 clear h
 go_enter Tryz.func41,Tryz.ntmps41
 go_wp2_with fail
 go_ret
 exact⟨rfl,rfl⟩
theorem vZ (w:World):(Instr.buildSlice 37 0 #[]).run Tryz.prog w=.ok (.slice (some ⟨w.heap.size,0,none⟩) 0 0) (w.alloc (.cells #[] 5)):=by kernel_rfl
theorem zS (B:Nat) (bs:Nat→Nat) (w:World) (h:B≤w.heap.size):(w.alloc (.cells #[] 5)).ownsRow B 5 1 (.slice (some ⟨w.heap.size,0,none⟩) 0 0) 0 (CB bs 0):=World.ownsRow_made w #[] 0 h (Nat.zero_le _) rfl
theorem il (a:Option Addr) (n cap:Nat) (bs:Nat→Nat) (w:World) (R:Row8 w a n cap bs) (hn:n≤140737488351232) :
  Calls Tryz.prog 34 #[.slice a n cap] w fun e w'=>∃ a' cap',e=.returned (.slice a' n cap')∧Hid (Below w.heap.size w w'∧w'.ownsRow w.heap.size 5 1 (.slice a' n cap') n (CB bs n)):=by
 cases a with
 | none=>
  obtain⟨rfl,rfl⟩:=R.nil rfl
  have he:∀ w:World,(binOp .eql 37 (.slice none 0 0) (.slice none 0 0)).run Tryz.prog w=.ok (.bool true) w:=fun _=>rfl
  go_enter Tryz.func34,Tryz.ntmps34
  go_wp2_with fail
  go_ret
  exact⟨_,_,rfl,Below.refl _ _,⟨rfl,.inl ⟨rfl,rfl⟩⟩⟩
 | some x=>
  obtain⟨i0,hi,hz0,hz1,hz2⟩:=info_parts bQ
  have hbd:=vZ
  have he:∀ w:World,(binOp .eql 37 (.slice (some x) n cap) (.slice none 0 0)).run Tryz.prog w=.ok (.bool false) w:=fun _=>rfl
  have hbelA:Below w.heap.size w (w.alloc (.cells #[] 5)):=(Below.refl _ _).alloc (Nat.le_refl _) _
  have R0:=R.below hbelA
  have O0:=zS w.heap.size bs w (Nat.le_refl _)
  have hszA:=hbelA.size
  have hby:=R.byte
  go_enter Tryz.func34,Tryz.ntmps34
  go_wp2_with (at_builtin;refine aT rfl (.tmp 5) (.tmp 6) 37 rfl w.heap.size 5 i0 (.int .u8 0) Tryz.underlying37 hi hz0 hz1 hz2 rfl _ 0 _ rfl O0 (some x) n cap bs rfl R0 (by unfold maxLen;omega) (by omega) hszA ?_)
  intro v2 w2 hown2 hgrow2
  have hbel2:Below w.heap.size w w2:=hbelA.grown hgrow2 hszA (fun k hk=>(O0.lt k hk).1)
  replace hown2:w2.ownsRow w.heap.size 5 1 v2 n (CB bs n):=by simpa [CB] using hown2
  obtain⟨a2,k2,rfl,_⟩:=aS hown2 hby
  have H:Hid (Below w.heap.size w w2∧w2.ownsRow w.heap.size 5 1 (.slice a2 n k2) n (CB bs n)):=⟨hbel2,hown2⟩
  clear hown2 hbel2 hgrow2 O0 R0 R hbelA hby
  go_wp2_with fail
  go_ret
  exact⟨_,_,rfl,H.out⟩
theorem gN (B:Nat) (b m:Nat) (v:Value) (vs:List Value) (p:Option Addr) (L:List fh) (i:Nat) (f:fh) (w:World) (h:Bg B w b m v vs p L) (hi:L[i]?=some f) :
  Calls Tryz.prog 42 #[.pointer (some ⟨b,0,none⟩),.int .i64 (i:Nat)] w fun e w'=>∃ a' cap',e=.returned (.tuple #[.slice a' f.1 cap',.int .i64 0])∧Hid (Below w.heap.size w w'∧w'.ownsRow w.heap.size 5 1 (.slice a' f.1 cap') f.1 (CB f.2 f.1)):=by
 have hlt:=(List.getElem?_eq_some_iff.1 hi).1
 have hlen:=h.fl.len
 obtain⟨a,cap,hv,R⟩:=h.fl.at_ hi
 have h27:=(h.fl.small f (List.mem_of_getElem? hi)).1
 have c0:=h.c0
 have hr:=h.fl.rows
 obtain⟨n,en⟩:∃ n,n=L.length:=⟨_,rfl⟩
 rw[← en]at hlt hlen hr
 cases n with
 | zero=>omega
 | succ n=>
  obtain⟨g,capv,rfl,_,_⟩:=kG hr
  have cv:w.cell? ⟨g,i,none⟩=some (.slice a f.1 cap):=(hr.cellAt i (by omega)).trans hv
  have hC:=il a f.1 cap f.2 w R (by omega)
  have h0:¬ ((i:Int)<0):=by omega
  have h1:¬ (((n+1:Nat):Int) ≤ (i:Int)):=by omega
  clear h hr hv R hi
  go_enter Tryz.func42,Tryz.ntmps42
  go_wp2_with (go_at_call 34;refine hC.mono ?_;rintro e w' ⟨a',cap',rfl,H⟩)
  go_ret2
  exact⟨_,_,rfl,H⟩
theorem ml (B:Nat) (b m:Nat) (v:Value) (vs:List Value) (p:Option Addr) (L:List fh) (i:Int) (w:World) (h:Bg B w b m v vs p L) (hi:i<0∨(L.length:Int)≤i) :
  Calls Tryz.prog 42 #[.pointer (some ⟨b,0,none⟩),.int .i64 i] w fun e w'=>e=.returned (.tuple #[.slice none 0 0,.int .i64 151])∧w'=w:=by
 have c0:=h.c0
 obtain⟨a,cap,rfl⟩:=bI h.fl.rows
 generalize L.length=n at *
 clear h
 by_cases h0:i<0
 ·clear hi
  go_enter Tryz.func42,Tryz.ntmps42
  go_wp2_with fail
  go_ret2
  exact⟨rfl,rfl⟩
 ·have h1:(n:Int)≤i:=by omega
  clear hi
  go_enter Tryz.func42,Tryz.ntmps42
  go_wp2_with fail
  go_ret2
  exact⟨rfl,rfl⟩
theorem sP:(Tryz.prog.info? 37).map (fun i=>(i.zero,i.size,i.bytes))=some (some (.slice none 0 0),1,24):=by kernel_rfl
theorem iU {B:Nat} {w0 w:World} (h:Below B w0 w) (hs:B≤w0.heap.size) (o:Obj):Below B w0 (w.alloc o):=h.alloc (Nat.le_trans hs h.size) o
theorem fd {B:Nat} {w0 w:World} (h:Below B w0 w) (n:Nat):Below B w0 (w.drewN n):=⟨h.os,h.tape,h.output,h.size,h.block⟩
theorem ru {ops:Array Oper} {o:Oper} {a:Act} {w:World} {K:Act→World→Prop} {Q:Exit→Act→World→Prop} {E:Prop}
  (hg:o.guard=none) (s x:Operand) (hop:o.op=Op.call { callee:=Callee.builtin Builtin.append,args:=#[s,x],argTypes:=#[114,114] }) (hty:o.type=114)
  (B n g:Nat) (vs:List Value) (y v:Value) (hs:a.eval s=v) (hown:w.ownsRow B 37 1 v n vs) (hx:a.eval x=.slice (some ⟨g,0,none⟩) 1 1)
  (hgc:w.cell? ⟨g,0,none⟩=some y) (hy:y.oneCell'=true) (hn:n<1000000) (hB:B≤w.heap.size)
  (hK:∀ g' cap' w',Hid (w'.ownsRow B 37 1 (.slice (some ⟨g',0,none⟩) (n+1) cap') (n+1) (vs ++ [y])∧w.grownBy w' v.ownBlock∧(v.ownBlock=some g'∨g'=w.heap.size))→K (a.put o.dst (.slice (some ⟨g',0,none⟩) (n+1) cap')) w') :
  if Region.wanted o (yielded ops a.tmps)=true then Oper.wp Tryz.prog o a w K Q else E:=by
 have hw:Region.wanted o (yielded ops a.tmps)=true:=by simp[Region.wanted,hg]
 rw[if_pos hw]
 obtain⟨i,hi,h0,h1,h2⟩:=info_parts sP
 obtain⟨v',w',hrun,h3,h4,_,h5⟩:=run_append_own_at w B 114 114 37 i _ 1 24 Tryz.underlying114 hi h0 h1 h2 rfl (by decide) v n vs hown ⟨g,0,none⟩ 1 1 [y] rfl (by
  intro j u hj
  cases j with
  | zero=>simp at hj;subst hj;simpa [Addr.add] using hgc
  | succ j=>simp at hj) (by intro u hu;simp at hu;subst hu;exact hy) (by unfold maxLen;omega) (by omega) hB
 obtain⟨g',cap',rfl,_,_⟩:=kG h3
 unfold Oper.wp execOp
 simp only[hop,hty,resolve,invoke,builtin,Sem.run_bind,Sem.run_pure,Result.andThen_ok,List.map_toArray,List.map_cons,List.map_nil,hs,hx,hrun]
 refine hK g' cap' w' ⟨h3,h4,?_⟩
 rcases h5 with h5 | h5
 ·left;rw[← h5];rfl
 ·right;simpa [Value.ownBlock] using h5
theorem px {P:Program} {ops:Array Oper} {o:Oper} {a:Act} {w:World} {K:Act→World→Prop} {Q:Exit→Act→World→Prop} {E:Prop} {R:Value→World→Prop}
  (f:FuncId) (ts:Array Operand) (ty:Array TypeId) (_:o.op=.call { callee:=.value (.func f),args:=ts,argTypes:=ty }) (hw:Region.wanted o (yielded ops a.tmps)=true) (args:Array Value) (hrun:(execOp a.eval o).run P w=.ok (.enter f args) w) (hc:Calls P f args w fun e w'=>∃ v,e=.returned v∧R v w') (hK:∀ v w',R v w'→K (a.put o.dst v) w') :
  if Region.wanted o (yielded ops a.tmps)=true then Oper.wp P o a w K Q else E:=by
 rw[if_pos hw]
 unfold Oper.wp
 rw[hrun]
 refine hc.mono ?_
 rintro e w'' ⟨v,rfl,hr⟩
 exact hK _ _ hr
theorem Row8.offB {l:List Nat} {w w':World} {a:Option Addr} {len cap:Nat} {bs:Nat→Nat} (h:Row8 w a len cap bs) (q:Off l w w') (hl:∀ x,a=some x→x.block ∉ l):Row8 w' a len cap bs:=by
 refine⟨h.byte,h.nil,fun x hx i hi=>?_,h.le⟩
 have h1:=h.src x hx i hi
 have hlt:=World.block_lt_of_cell? w _ h1
 have hb:(x.add i).block=x.block:=by unfold Addr.add;split <;> rfl
 have he:w'.heap[(x.add i).block]?=w.heap[(x.add i).block]?:=q.block _ hlt (by rw[hb];exact hl x hx)
 rw[← h1]
 unfold World.cell?
 rw[he]
theorem Bg.put {B:Nat} {w w2 wx wa wy:World} {b m g cap:Nat} {v:Value} {vs:List Value} {p p':Option Addr} {L:List fh} {x:Value} {n:Nat} {bs:Nat→Nat} (h:Bg B w b m v vs p L)
  (o2:Off [m] w w2) (h2m:Met w2 m (eZ (L ++ [(n,bs)]):Nat) p' 0 0 none) (h2p:Pk 0 w2 p' (oK (L ++ [(n,bs)])))
  (hx:Below w2.heap.size w2 wx) (ho:wx.ownsRow w2.heap.size 5 1 x n (CB bs n)) (h27:n≤27) (hb:∀ i,i<n→bs i<256) (hn:L.length<4096) (hBw:B≤w2.heap.size)
  (ha:Below wx.heap.size wx wa) (hr:wy.ownsRow B 37 1 (.slice (some ⟨g,0,none⟩) (L.length+1) cap) (L.length+1) (vs ++ [x])) (hg:wa.grownBy wy v.ownBlock) (hgb:v.ownBlock=some g∨g=wa.heap.size) :
  Off (b :: m :: v.ownBlock.toList) w (wy.setCell ⟨b,0,none⟩ (.slice (some ⟨g,0,none⟩) (L.length+1) cap)) ∧
  Bg B (wy.setCell ⟨b,0,none⟩ (.slice (some ⟨g,0,none⟩) (L.length+1) cap)) b m (.slice (some ⟨g,0,none⟩) (L.length+1) cap) (vs ++ [x]) p' (L ++ [(n,bs)])∧(v.ownBlock=some g∨w.heap.size≤g):=by
 have f2:Fl B w2 v vs L:=h.fl.keep o2 fun y hy hs=>by
  simp only[List.mem_singleton]at hy
  subst hy
  refine⟨fun e=>?_,fun c f hc=>?_⟩
  ·obtain⟨c,hc⟩:=aF h.fl.rows e
   exact dx h.met.at_ hc (by decide) rfl
  ·exact dx h.met.at_ hc (by decide) rfl
 have hbm:b≠m:=dx h.at_ h.met.at_ (by decide)
 have b2:w2.heap[b]?=_:=(o2.block b h.lt (by simpa using hbm)).trans h.at_
 have h2a:Below w2.heap.size w2 wa:=hx.trans (ha.mono hx.size)
 have f3:=f2.more h2a (dh (aI ho hBw) ha) h27 hb hn hr hg
 have rest:∀ (k:Nat) (c:Array Value) (e:TypeId) (f:Nat × Nat),w2.heap[k]?=some (.cells c e f)→e≠37→wy.heap[k]?=some (.cells c e f):=by
  intro k c e f hk he
  have hlt:=(Array.getElem?_eq_some_iff.1 hk).1
  have hka:wa.heap[k]?=_:=(h2a.block k hlt).trans hk
  refine (hg.block k (Nat.lt_of_lt_of_le hlt h2a.size) fun ek=>?_).trans hka
  obtain⟨c',hc'⟩:=aF (f2.below h2a).rows ek.symm
  exact dx hka hc' he rfl
 have by_:=rest b _ _ _ b2 (by decide)
 have o3:=Off.setCell b 0 wy (.slice (some ⟨g,0,none⟩) (L.length+1) cap)
 have my:Met wy m (eZ (L ++ [(n,bs)]):Nat) p' 0 0 none:=⟨rest m _ _ _ h2m.at_ (by decide)⟩
 have py:Pk 0 wy p' (oK (L ++ [(n,bs)])):=by
  generalize oK (L ++ [(n,bs)])=q at h2p
  cases h2p with
  | none=>exact .none
  | some c v' h' hc=>exact .some c v' h' (rest c _ _ _ hc (by decide))
 have B0:Bg B (wy.setCell ⟨b,0,none⟩ (.slice (some ⟨g,0,none⟩) (L.length+1) cap)) b m (.slice (some ⟨g,0,none⟩) (L.length+1) cap) (vs ++ [x]) p' (L ++ [(n,bs)]):=by
  refine⟨heap_setCell_same _ _ _ _ _ _ by_,f3.keep o3 fun y hy hs=>?_,my.off o3 (by simpa using hbm.symm),?_,h.bB,h.mB⟩
  ·simp only[List.mem_singleton]at hy
   subst hy
   refine⟨fun e=>?_,fun c f hc=>?_⟩
   ·obtain⟨c,hc⟩:=aF f3.rows e
    exact dx by_ hc (by decide) rfl
   ·exact dx by_ hc (by decide) rfl
  ·generalize oK (L ++ [(n,bs)])=q at py
   cases py with
   | none=>exact .none
   | some c v' h' hc=>exact .some c v' h' ((o3.block c (Array.getElem?_eq_some_iff.1 hc).1 (by simpa using dx hc by_ (by decide))).trans hc)
 have o4:Off (b :: m :: v.ownBlock.toList) w wy:=by
  have q1:Off (b :: m :: v.ownBlock.toList) w2 wa:=Off.of_below h2a
  have q2:Off (b :: m :: v.ownBlock.toList) wa wy:=⟨hg.os,hg.tape,hg.output,hg.size,fun k hk hm=>hg.block k hk fun e=>hm (by rw[← e];simp)⟩
  exact ((o2.more (by simp)).trans q1).trans q2
 refine⟨o4.trans (o3.more (by simp)),B0,?_⟩
 rcases hgb with e | e
 ·exact .inl e
 ·right
  have:=o2.size
  have:=h2a.size
  omega
def Grb (B:Nat) (w':World) (n at_ x:Nat) (f:Nat→Nat) (v:Value):Prop:=
 ∃ g,w'.ownsRow B 5 1 v n (CB (xr f g) n)∧(∀ i,i<n→g i<256)∧∀ k,k<8*n→PM.fb g k=PM.ly at_ (PM.bl x) x (PM.bl x) k
theorem jL (B:Nat) (b m:Nat) (v:Value) (vs:List Value) (p:Option Addr) (L:List fh) (i:Nat) (f:fh) (at_ x:Nat) (w:World) (h:Bg B w b m v vs p L) (hi:L[i]?=some f) (hx:x<4294967296) (hx0:x≠0) (hfit:at_+PM.bl x≤8*f.1) :
  Calls Tryz.prog 100 #[.pointer (some ⟨b,0,none⟩),.int .i64 (i:Nat),.int .i64 (at_:Nat),.int .u32 (x:Nat)] w fun e w'=>∃ g c,e=.returned (.tuple #[.slice (some ⟨g,0,none⟩) f.1 c,.int .i64 0])∧Hid (Below w.heap.size w w'∧Grb w.heap.size w' f.1 at_ x f.2 (.slice (some ⟨g,0,none⟩) f.1 c)∧w.heap.size≤g):=by
 have h27:=(h.fl.small f (List.mem_of_getElem? hi)).1
 have hby:=(h.fl.small f (List.mem_of_getElem? hi)).2
 have hG:=gN B b m v vs p L i f w h hi
 clear h hi
 go_enter Tryz.func100,Tryz.ntmps100
 go_wp2_with fail
 refine hG.mono ?_
 rintro e w1 ⟨a1,cap1,rfl,H1⟩
 have hM:=rT f.1 at_ x w1 hx hx0 (by omega) hfit
 clear hG
 go_wp2_with fail
 refine hM.mono ?_
 rintro e w2 ⟨v2,rfl,H2⟩
 obtain⟨b2,g,og,gb,gl⟩:=H2.out
 obtain⟨a2,cap2,rfl,R2⟩:=aS og gb
 have R1:Row8 w2 a1 f.1 cap1 f.2:=by
  obtain⟨a1',cap1',e1,R1⟩:=aS (dh H1.out.2 b2) hby
  simp only[Value.slice.injEq,true_and]at e1
  obtain⟨rfl,rfl⟩:=e1
  exact R1
 have hT:=rs a1 a2 f.1 cap1 cap2 f.2 g w2 R1 R2 (by omega)
 have HH:Hid (_):=And.intro gb (And.intro gl (And.intro H1.out.1 b2))
 clear hM H2 H1 og gb gl R1 R2 b2
 go_wp2_with fail
 refine hT.mono ?_
 rintro e w3 ⟨c3,rfl,H3⟩
 clear hT
 go_wp2_with fail
 go_ret2
 have s1:=HH.out.2.2.1.size
 have s2:=HH.out.2.2.2.size
 exact⟨_,_,rfl,HH.out.2.2.1.trans ((HH.out.2.2.2.trans (H3.out.1.mono s2)).mono s1),⟨g,aI H3.out.2 (Nat.le_trans s1 s2),HH.out.1,HH.out.2.1⟩,Nat.le_trans s1 s2⟩
theorem rN (B:Nat) (b m:Nat) (v:Value) (vs:List Value) (p:Option Addr) (L:List fh) (i:Nat) (f:fh) (at_:Int) (x:Nat) (w:World) (h:Bg B w b m v vs p L) (hi:L[i]?=some f) (hx:x<4294967296) (ha : -9223372036854775808≤at_∧at_<9223372036854775808) (he:bT f.1 at_ x≠0) :
  Calls Tryz.prog 100 #[.pointer (some ⟨b,0,none⟩),.int .i64 (i:Nat),.int .i64 at_,.int .u32 (x:Nat)] w fun e w'=>e=.returned (.tuple #[.slice none 0 0,.int .i64 (bT f.1 at_ x)])∧Hid (Below w.heap.size w w'):=by
 have h27:=(h.fl.small f (List.mem_of_getElem? hi)).1
 have hG:=gN B b m v vs p L i f w h hi
 have hM:=fun w1=>tU f.1 at_ x w1 hx (by omega) ha he
 generalize bT f.1 at_ x=y at *
 clear h hi
 go_enter Tryz.func100,Tryz.ntmps100
 go_wp2_with fail
 refine hG.mono ?_
 rintro e w1 ⟨a1,cap1,rfl,H1⟩
 clear hG
 go_wp2_with fail
 refine (hM _).mono ?_
 rintro e w2 ⟨rfl,rfl⟩
 clear hM
 go_wp2_with fail
 go_ret2
 exact⟨rfl,H1.out.1⟩
theorem qD (B:Nat) (b m:Nat) (v:Value) (vs:List Value) (p:Option Addr) (L:List fh) (i at_ x:Int) (w:World) (h:Bg B w b m v vs p L) (hi:i<0∨(L.length:Int)≤i) :
  Calls Tryz.prog 100 #[.pointer (some ⟨b,0,none⟩),.int .i64 i,.int .i64 at_,.int .u32 x] w fun e w'=>e=.returned (.tuple #[.slice none 0 0,.int .i64 151])∧w'=w:=by
 have hG:=ml B b m v vs p L i w h hi
 clear h hi
 go_enter Tryz.func100,Tryz.ntmps100
 go_wp2_with fail
 refine hG.mono ?_
 rintro e w1 ⟨rfl,rfl⟩
 clear hG
 go_wp2_with fail
 go_ret2
 exact⟨rfl,rfl⟩
end Go.Proofs.YtdmjfemodihfhaaGreat
