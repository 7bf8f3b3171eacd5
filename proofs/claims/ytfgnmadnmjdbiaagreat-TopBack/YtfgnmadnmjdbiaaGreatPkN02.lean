/- Part 3: contracts that the proof rests on. -/
import Derived.Test.YtfgnmadnmjdbiaaGreatProg
import Derived.WalkKit
import Derived.WalkSpells
import Derived.OpenShut
import Derived.Laws.BitsAllLaws
import Derived.Laws.Pointers
import Derived.Laws.LoneSync
import Derived.Laws.NewBlocks
import Derived.Lib.Builder
import Derived.RegionTactic
import Derived.RegionCalls
import Derived.Deep.DeepCutAuto
import Derived.Deep.RegionWith
import Derived.Deep.QuietTactic
import Derived.Test.YtfgnmadnmjdbiaaGreatPkN01
set_option maxHeartbeats 64000000
set_option maxRecDepth 100000
namespace Go.Proofs.YtfgnmadnmjdbiaaGreat
open Tryz
open Go.RowKit
def lU (mx n:Nat) (s:Ms):Int:=if mx=0∨n<10 then 2 else if s.off then 70 else fG n (dn s.bs) s
def jw (mx n:Nat) (s:Ms):Ms:=if mx=0∨n<10 then s else if s.off then s else fU n (dn s.bs) s
structure Nx where
 v:Nat
 e:Int
 s:Ms
 z:Nat→Nat
 c:Bool
def nx (mx n:Nat) (z:Nat→Nat) (cut:Bool) (s:Ms):Nx:=
 if cut=true∨s.off=true then ⟨0,70,s,z,cut⟩ else if mx≤vz z then ⟨0,80,s,z,cut⟩ else
 if fG n (cT (tg z) (vz z+1)) s=0 then ⟨vz z+1,0,fU n (cT (tg z) (vz z+1)) s,(fU n (cT (tg z) (vz z+1)) s).bs,false⟩ else ⟨0,70,fU n (cT (tg z) (vz z+1)) s,z,true⟩
theorem wm {n:Nat} {l:List (Nat × Nat)} {s:Ms} (hin:∀ x,x ∈ l→x.1<n∧x.2<256) (ho:s.off=false) (hl:0≤s.l):fG n l s=0∨fG n l s=70:=by
 rcases fM n l s (fun x hx=>(hin x hx).1) ho hl with ⟨h,_⟩ | ⟨h,_⟩
 ·exact .inl h
 ·exact .inr h
theorem wJ {n:Nat} {l:List (Nat × Nat)} {s:Ms} (hin:∀ x,x ∈ l→x.1<n∧x.2<256) (ho:s.off=false) (hl:0≤s.l):(fU n l s).t≤s.t+l.length:=by
 rcases fM n l s (fun x hx=>(hin x hx).1) ho hl with ⟨_,h,_⟩ | ⟨_,h,_,h4⟩
 ·rw[h]
  exact Int.le_refl _
 ·rw[h]
  show s.t+s.l≤_
  omega
theorem aad (mx n:Nat) (s:Ms) (hl:0≤s.l):(jw mx n s).t≤s.t+6:=by
 unfold jw
 split
 ·omega
 ·split
  ·omega
  ·have:=wJ (ii s.bs n (by omega)) (by simpa using ‹¬ s.off=true›) hl
   have:=mR s.bs
   omega
theorem aaj (mx n:Nat) (z:Nat→Nat) (cut:Bool) (s:Ms) (hn:10≤n) (hl:0≤s.l):(nx mx n z cut s).s.t≤s.t+6:=by
 unfold nx
 split
 ·show s.t≤s.t+6;omega
 ·split
  ·show s.t≤s.t+6;omega
  ·rename_i h _
   have ho:s.off=false:=by cases hh:s.off <;> simp[hh]at h ⊢
   have:=wJ (fo (tg z) (vz z+1) n (j4 z) hn) ho hl
   split
   ·exact this
   ·exact this
theorem xh (m g n mx:Nat) (s:Ms) (w:World) (hM:MR w m g n s) (ht:s.t<9223372036854774000) :
  Calls prog 66 #[ac m 0,.int .u32 (mx:Nat)] w fun e w'=>∃ p,e=.returned (.tuple #[.pointer p,.int .i64 (lU mx n s)])∧Hid (Off [m,g] w w'∧MR w' m g n (jw mx n s) ∧
   (lU mx n s=0→∃ c,p=af c 0∧w.heap.size≤c∧CS w' c m mx (jw mx n s).bs false)∧(¬ lU mx n s=0→p=none)):=by
 unfold lU jw
 by_cases h1:mx=0∨n<10
 ·rw[if_pos h1,if_pos h1]
  refine (wo m g n mx s w hM h1).mono ?_
  rintro e w' ⟨rfl,rfl⟩
  exact⟨_,rfl,Off.refl _ _,hM,fun h=>by omega,fun _=>rfl⟩
 ·rw[if_neg h1,if_neg h1]
  by_cases ho:s.off=true
  ·rw[if_pos ho,if_pos ho]
   refine (sV m g n mx s w hM (by omega) (by omega) ho).mono ?_
   rintro e w' ⟨rfl,o,M⟩
   exact⟨_,rfl,o,M,fun h=>by omega,fun _=>rfl⟩
  ·rw[if_neg ho,if_neg ho]
   refine (wu m g n mx s w hM (by omega) (by omega) (by simpa using ho) (by omega)).mono ?_
   rintro e w' ⟨p,rfl,H⟩
   obtain⟨o,M,C,D⟩:=H.out
   exact⟨p,rfl,o,M,fun h=>⟨_,(C h).1,Nat.le_refl _,(C h).2⟩,D⟩
theorem xB (m g n mx:Nat) (s:Ms) (w:World) (hM:MR w m g n s) (h:lU mx n s=0):mx≠0∧10≤n∧vz (jw mx n s).bs=vz s.bs:=by
 unfold lU at h
 unfold jw
 by_cases h1:mx=0∨n<10
 ·rw[if_pos h1]at h;omega
 ·rw[if_neg h1]at h ⊢
  by_cases ho:s.off=true
  ·rw[if_pos ho]at h;omega
  ·rw[if_neg ho]at h ⊢
   refine⟨by omega,by omega,?_⟩
   rw[np (ii s.bs n (by omega)) (by simpa using ho) hM.l0 h]
   have q:=lS s.bs 6 (fun i hi=>hM.byte i (by omega))
   rwa [List.take_of_length_le (mR s.bs)]at q
theorem zo (c m g n mx:Nat) (z:Nat→Nat) (cut:Bool) (s:Ms) (w:World) (hM:MR w m g n s) (hC:CS w c m mx z cut) (hz:Bz z) (hzs:cut=false→z=s.bs) (hcm:c≠m) (hcg:c≠g) (hn:10≤n) (hx:mx<4294967296) (ht:s.t<9223372036854774000) :
  Calls prog 217 #[ac c 0] w fun e w'=>e=.returned (.tuple #[.int .u32 ((nx mx n z cut s).v:Nat),.int .i64 (nx mx n z cut s).e]) ∧
   (Off [m,g,c] w w'∧MR w' m g n (nx mx n z cut s).s∧CS w' c m mx (nx mx n z cut s).z (nx mx n z cut s).c):=by
 unfold nx
 by_cases h1:cut=true∨s.off=true
 ·rw[if_pos h1]
  refine (sO c m g n mx z cut s w hM hC h1).mono ?_
  rintro e w' ⟨rfl,rfl⟩
  exact⟨rfl,Off.refl _ _,hM,hC⟩
 ·rw[if_neg h1]
  have hc:cut=false:=by cases cut <;> simp at h1 ⊢
  have ho:s.off=false:=by cases hh:s.off <;> simp[hh]at h1 ⊢
  subst hc
  by_cases h2:mx≤vz z
  ·rw[if_pos h2]
   refine (ri c m g n mx z s w hM hC hz ho h2).mono ?_
   rintro e w' ⟨rfl,rfl⟩
   exact⟨rfl,Off.refl _ _,hM,hC⟩
  ·rw[if_neg h2]
   obtain rfl:=hzs rfl
   have q:=wI c m g n mx s w hM hC hcm hcg hn hx ho (by omega) (by omega)
   by_cases h3:fG n (cT (tg s.bs) (vz s.bs+1)) s=0
   ·rw[if_pos h3]
    rw[if_pos h3]at q
    refine q.mono ?_
    rintro e w' ⟨rfl,o,M,C,_⟩
    exact⟨by rw[h3],o,M,C h3⟩
   ·rw[if_neg h3]
    rw[if_neg h3]at q
    have h4:=(wm (fo (tg s.bs) (vz s.bs+1) n (j4 _) hn) ho hM.l0).resolve_left h3
    refine q.mono ?_
    rintro e w' ⟨rfl,o,M,_,C⟩
    exact⟨by rw[h4],o,M,C h3⟩
section
variable {P:Program} {f:FuncId} {fn:Func}
theorem iB (hf : P.funcs[f]? = some fn) (hname : (fn.name == "runtime.NumGoroutine") = false) (hb : fn.body.isNone = true) (hn : Extern.findNext fn = none)
  (he:Extern.find fn=some (Extern.Atomic.loadT .ptr)) {a:Addr} {p:Option Addr} {w:World} (hc:w.cell? a=some (.pointer p)) :
  (callFunc f #[.pointer (some a)]).run P w=.ok (.value (.pointer p)) w:=by
 rw[run_callFunc_extern hf hname hb hn he]
 change (Sem.run P (do Extern.Atomic.read .ptr (← asAddr (.pointer (some a)))) w).andThen _=_
 simp[Extern.Atomic.read,asAddr,hc,Result.andThen]
theorem gv (p:Option Addr) (w:World):(samePointer p p).run P w=.ok true w:=by
 cases p <;> simp[samePointer,sameAddr]
theorem iQ (hf : P.funcs[f]? = some fn) (hname : (fn.name == "runtime.NumGoroutine") = false) (hb : fn.body.isNone = true) (hn : Extern.findNext fn = none)
  (he:Extern.find fn=some (Extern.Atomic.casT .ptr)) {a:Addr} {x y:Option Addr} {w:World} (hc:w.cell? a=some (.pointer x)) (hz:w.frozen? a=false) :
  (callFunc f #[.pointer (some a),.pointer x,.pointer y]).run P w=.ok (.value (.bool true)) (w.setCell a (.pointer y)):=by
 rw[run_callFunc_extern hf hname hb hn he]
 change (Sem.run P (do
  let a' ← asAddr (.pointer (some a))
  if ← Extern.Atomic.touchesFrozen a' then unsupported (.unsafePointer "a write to bytes that a string shares")
  let eq ← match Extern.Atomic.T.ptr,← Extern.Atomic.read .ptr a',Value.pointer x with
   | _,.int _ x,.int _ y=>pure (x == y)
   | .ptr,.pointer x,.pointer y=>samePointer x y
   | .int _,.pointer (some _),.int _ 0 | .int _,.int _ 0,.pointer (some _)=>pure false
   | .int _,.pointer (some _),_ | .int _,_,.pointer (some _)=>unsupported .addressObserved
   | _, _, _ => stuck "atomic.CompareAndSwap: old is no T"
  if eq then store a' (.pointer y) .atomic
  pure (Value.bool eq)) w).andThen _=_
 simp[Extern.Atomic.touchesFrozen,Extern.Atomic.read,asAddr,viewAt,World.shape?_isSome_of_cell? hc,hc,hz,gv,run_store P w a (.pointer y) .atomic rfl,Result.andThen]
end
theorem uh (a:Addr) (d:Int) (w:World) (h0:w.cell? a=some (.int .u64 d)) :
  Calls prog 142 #[.pointer (some a)] w fun e w'=>e=.returned (.int .u64 d)∧w'=w:=by
 have hl:=run_call_load (P:=prog) func177 (by kernel_rfl) (by kernel_rfl) (by kernel_rfl) .u64 (by kernel_rfl) h0
 go_enter func142,ntmps142
 go_wp2
 go_ret
 exact⟨rfl,rfl⟩
theorem vQ (a:Addr) (x y:Int) (w:World) (h0:w.cell? a=some (.int .u64 x)) (hz:w.frozen? a=false) :
  Calls prog 144 #[.pointer (some a),.int .u64 x,.int .u64 y] w fun e w'=>e=.returned (.bool true)∧w'=w.setCell a (.int .u64 y):=by
 have hl:=run_call_cas_hit (P:=prog) func178 (by kernel_rfl) (by kernel_rfl) (by kernel_rfl) .u64 (by kernel_rfl) (y:=y) h0 hz
 go_enter func144,ntmps144
 go_wp2
 go_ret
 exact⟨rfl,rfl⟩
theorem nJ (a:Addr) (d:Int) (w:World) (h0:w.cell? a=some (.int .i64 d)) :
  Calls prog 76 #[.pointer (some a)] w fun e w'=>e=.returned (.int .i64 d)∧w'=w:=by
 have hl:=run_call_load (P:=prog) func99 (by kernel_rfl) (by kernel_rfl) (by kernel_rfl) .i64 (by kernel_rfl) h0
 go_enter func76,ntmps76
 go_wp2
 go_ret
 exact⟨rfl,rfl⟩
theorem vM (a:Addr) (x y:Int) (w:World) (h0:w.cell? a=some (.int .i64 x)) (hz:w.frozen? a=false) :
  Calls prog 245 #[.pointer (some a),.int .i64 x,.int .i64 y] w fun e w'=>e=.returned (.bool true)∧w'=w.setCell a (.int .i64 y):=by
 have hl:=run_call_cas_hit (P:=prog) func246 (by kernel_rfl) (by kernel_rfl) (by kernel_rfl) .i64 (by kernel_rfl) (y:=y) h0 hz
 go_enter func245,ntmps245
 go_wp2
 go_ret
 exact⟨rfl,rfl⟩
theorem ru (a:Addr) (x y:Int) (w:World) (h0:w.cell? a=some (.int .i64 x)) (hz:w.frozen? a=false) :
  Calls prog 203 #[.pointer (some a),.int .i64 y] w fun e w'=>e=.returned (.tuple #[])∧w'=w.setCell a (.int .i64 y):=by
 have hl:=run_call_store (P:=prog) func214 (by kernel_rfl) (by kernel_rfl) (by kernel_rfl) (by kernel_rfl) (k:=.i64) (y:=y) h0 hz
 go_enter func203,ntmps203
 go_wp2
 go_end0
 exact⟨rfl,rfl⟩
theorem iO (a:Addr) (p:Option Addr) (w:World) (h0:w.cell? a=some (.pointer p)) (hcv:(convert 145 143 (.pointer p)).run prog w=.ok (.pointer p) w) :
  Calls prog 145 #[.pointer (some a)] w fun e w'=>e=.returned (.pointer p)∧w'=w:=by
 have hl:=iB (P:=prog) func179 (by kernel_rfl) (by kernel_rfl) (by kernel_rfl) (by kernel_rfl) h0
 go_enter func145,ntmps145
 go_wp2
 go_ret
 exact⟨rfl,rfl⟩
theorem nc (a:Addr) (p q:Option Addr) (w:World) (h0:w.cell? a=some (.pointer p)) (hz:w.frozen? a=false) (hcp:(convert 143 145 (.pointer p)).run prog w=.ok (.pointer p) w)
  (hcq:(convert 143 145 (.pointer q)).run prog w=.ok (.pointer q) w) :
  Calls prog 146 #[.pointer (some a),.pointer p,.pointer q] w fun e w'=>e=.returned (.bool true)∧w'=w.setCell a (.pointer q):=by
 have hl:=iQ (P:=prog) func180 (by kernel_rfl) (by kernel_rfl) (by kernel_rfl) (by kernel_rfl) (y:=q) h0 hz
 go_enter func146,ntmps146
 go_wp2
 go_ret
 exact⟨rfl,rfl⟩
end Go.Proofs.YtfgnmadnmjdbiaaGreat
namespace Go.Proofs.YtfgnmadnmjdbiaaGreat
open Tryz
open Go.RowKit
def DC (l c:Nat):Array Value:=#[.int .i64 l,.int .i64 c]
structure DR (w:World) (b l c:Nat):Prop where
 at_:w.heap[b]?=some (.cells (DC l c) 177 (0,0))
 lo:1≤l
 hi:l≤1048576
 le:c≤l
section
variable {w w':World} {b l c:Nat}
theorem DR.lt (h:DR w b l c):b<w.heap.size:=(Array.getElem?_eq_some_iff.1 h.at_).1
theorem DR.c0 (h:DR w b l c):w.cell? ⟨b,0,none⟩=some (.int .i64 l):=ae w b 0 _ _ _ h.at_
theorem DR.c1 (h:DR w b l c):w.cell? ⟨b,1,none⟩=some (.int .i64 c):=ae w b 1 _ _ _ h.at_
theorem DR.fz (h:DR w b l c) (j:Nat):w.frozen? ⟨b,j,none⟩=false:=frozen_of_row w b j _ _ h.at_
theorem DR.off {m:List Nat} (h:DR w b l c) (q:Off m w w') (hb:b ∉ m):DR w' b l c:=⟨(q.block b h.lt hb).trans h.at_,h.lo,h.hi,h.le⟩
theorem DR.set (h:DR w b l c) (x:Nat) (hx:x≤l):DR (w.setCell ⟨b,1,none⟩ (.int .i64 x)) b l x:=⟨heap_setCell_same _ _ _ _ _ _ h.at_,h.lo,h.hi,hx⟩
end
def tk (l c n:Nat):Nat:=c+min n (l-c)
def ji (l c n:Nat):Bool:=decide (c<l∧l≤c+n)
theorem zY (l c n:Nat) (h:c≤l):tk l c n≤l:=by unfold tk;omega
theorem qk (l:Nat) (w:World) (h1:1≤l) (h2:l≤1048576) :
  Calls prog 80 #[.int .i64 l] w fun e w'=>e=.returned (.tuple #[ac w.heap.size 0,.int .i64 0])∧(Off [] w w'∧DR w' w.heap.size l 0):=by
 go_enter func80,ntmps80
 go_wp2
 go_ret2
 exact⟨rfl,Off.alloc _ _ _,⟨aE w _,h1,h2,Nat.zero_le _⟩⟩
theorem sY (l c n b:Nat) (w:World) (h:DR w b l c) (hn:n≤9223372036854775807) :
  Calls prog 244 #[ac b 0,.int .i64 n] w fun e w'=>e=.returned (.bool (ji l c n))∧w'=w.setCell ⟨b,1,none⟩ (.int .i64 (tk l c n:Nat)):=by
 have h0:=h.c0
 have h1:=h.c1
 have hl:=nJ _ _ w h1
 have hc:=vM ⟨b,1,none⟩ c (tk l c n:Nat) w h1 (h.fz 1)
 obtain⟨_,_,hi,le⟩:=h
 obtain⟨L,hL⟩:∃ L,L=l-c:=⟨_,rfl⟩
 have e1:IntKind.i64.wrap ((l:Int) - (c:Int))=((L:Nat):Int):=by rw[IntKind.wrap_i64];omega
 have e4:ji l c n=(decide (0<L) && decide (L≤n)):=by unfold ji;rw[Bool.eq_iff_iff];simp;omega
 have e5:tk l c n=if L<n then c+L else c+n:=by unfold tk;split <;> omega
 generalize ji l c n=t at *
 generalize tk l c n=s at *
 rcases Nat.lt_trichotomy L n with g | g | g
 ·rw[if_pos g]at e5
  have e3:IntKind.i64.wrap ((c:Int) + (L:Int))=(s:Int):=by rw[e5,IntKind.wrap_i64];omega
  clear e5
  have g2:L≤n:=by omega
  by_cases g1:0<L
  ·have ht:t=true:=by rw[e4];simp[g1,g2]
   subst ht
   clear e4 hL le hi hn
   go_enter func244,ntmps244
   go_wp2_with fail
   refine wp_loop_once ?_
   go_wp2_with (first | (go_at_call 76;refine hl.mono ?_;rintro e w' ⟨rfl,rfl⟩) | (go_at_call 245;refine hc.mono ?_;rintro e w' ⟨rfl,rfl⟩))
   go_ret
   exact⟨rfl,rfl⟩
  ·have ht:t=false:=by rw[e4];simp[g1]
   subst ht
   clear e4 hL le hi hn
   go_enter func244,ntmps244
   go_wp2_with fail
   refine wp_loop_once ?_
   go_wp2_with (first | (go_at_call 76;refine hl.mono ?_;rintro e w' ⟨rfl,rfl⟩) | (go_at_call 245;refine hc.mono ?_;rintro e w' ⟨rfl,rfl⟩))
   go_ret
   exact⟨rfl,rfl⟩
 ·subst g
  rw[if_neg (by omega)]at e5
  have e3:IntKind.i64.wrap ((c:Int) + (L:Int))=(s:Int):=by rw[e5,IntKind.wrap_i64];omega
  clear e5
  by_cases g1:0<L
  ·have ht:t=true:=by rw[e4];simp[g1]
   subst ht
   clear e4 hL le hi hn
   go_enter func244,ntmps244
   go_wp2_with fail
   refine wp_loop_once ?_
   go_wp2_with (first | (go_at_call 76;refine hl.mono ?_;rintro e w' ⟨rfl,rfl⟩) | (go_at_call 245;refine hc.mono ?_;rintro e w' ⟨rfl,rfl⟩))
   go_ret
   exact⟨rfl,rfl⟩
  ·have ht:t=false:=by rw[e4];simp[g1]
   subst ht
   clear e4 hL le hi hn
   go_enter func244,ntmps244
   go_wp2_with fail
   refine wp_loop_once ?_
   go_wp2_with (first | (go_at_call 76;refine hl.mono ?_;rintro e w' ⟨rfl,rfl⟩) | (go_at_call 245;refine hc.mono ?_;rintro e w' ⟨rfl,rfl⟩))
   go_ret
   exact⟨rfl,rfl⟩
 ·rw[if_neg (by omega)]at e5
  have e3:IntKind.i64.wrap ((c:Int) + (n:Int))=(s:Int):=by rw[e5,IntKind.wrap_i64];omega
  clear e5
  have g1:0<L:=by omega
  have ht:t=false:=by rw[e4];simp;omega
  subst ht
  have g2:¬ L≤n:=by omega
  clear e4 hL le hi hn
  go_enter func244,ntmps244
  go_wp2_with fail
  refine wp_loop_once ?_
  go_wp2_with (first | (go_at_call 76;refine hl.mono ?_;rintro e w' ⟨rfl,rfl⟩) | (go_at_call 245;refine hc.mono ?_;rintro e w' ⟨rfl,rfl⟩))
  go_ret
  exact⟨rfl,rfl⟩
theorem j8 (l c n b:Nat) (w:World) (h:DR w b l c) (hn:n≤9223372036854775807) :
  Calls prog 242 #[ac b 0,.int .i64 n] w fun e w'=>e=.returned (.tuple #[.bool (ji l c n),.int .i64 0])∧(Off [b] w w'∧DR w' b l (tk l c n)):=by
 have hg:=sY l c n b w h hn
 have hk:Hid (Off [b] w (w.setCell ⟨b,1,none⟩ (.int .i64 (tk l c n:Nat)))∧DR (w.setCell ⟨b,1,none⟩ (.int .i64 (tk l c n:Nat))) b l (tk l c n)):=⟨Off.setCell _ _ _ _,h.set _ (zY l c n h.le)⟩
 generalize ji l c n=t at *
 clear h
 go_enter func242,ntmps242
 go_wp2_with fail
 refine hg.mono ?_
 rintro e w' ⟨rfl,hw⟩
 have hj:=hw ▸ hk
 clear hk hg hw
 go_wp2_with fail
 go_ret2
 exact⟨rfl,hj.out⟩
theorem jC (n:Int) (b:Nat) (w:World) (hn:n<0) :
  Calls prog 242 #[ac b 0,.int .i64 n] w fun e w'=>e=.returned (.tuple #[.bool false,.int .i64 2])∧w'=w:=by
 go_enter func242,ntmps242
 go_wp2_with fail
 go_ret2
 exact⟨rfl,rfl⟩
theorem lj (l c b:Nat) (w:World) (h:DR w b l c) :
  Calls prog 184 #[ac b 0] w fun e w'=>e=.returned (.tuple #[])∧(Off [b] w w'∧DR w' b l 0):=by
 have hs:=ru ⟨b,1,none⟩ c 0 w h.c1 (h.fz 1)
 have hk:Hid (Off [b] w (w.setCell ⟨b,1,none⟩ (.int .i64 ((0:Nat):Int)))∧DR (w.setCell ⟨b,1,none⟩ (.int .i64 ((0:Nat):Int))) b l 0):=⟨Off.setCell _ _ _ _,h.set _ (Nat.zero_le _)⟩
 clear h
 go_enter func184,ntmps184
 go_wp2_with fail
 refine hs.mono ?_
 rintro e w' ⟨rfl,hw⟩
 have hj:Hid (Off [b] w w'∧DR w' b l 0):=by rw[hw];exact hk
 clear hk hs hw
 go_wp2_with fail
 go_end0
 exact⟨rfl,hj.out⟩
theorem jK (l c b:Nat) (w:World) (h:DR w b l c) :
  Calls prog 57 #[ac b 0] w fun e w'=>e=.returned (.int .i64 c)∧w'=w:=by
 have hl:=nJ _ _ w h.c1
 clear h
 go_enter func57,ntmps57
 go_wp2_with (go_at_call 76;refine hl.mono ?_;rintro e w' ⟨rfl,rfl⟩)
 go_ret
 exact⟨rfl,rfl⟩
end Go.Proofs.YtfgnmadnmjdbiaaGreat
