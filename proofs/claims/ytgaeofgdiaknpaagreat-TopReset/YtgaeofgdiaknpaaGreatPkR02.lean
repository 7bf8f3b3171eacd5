/- Part 3: contracts that the proof rests on. -/
import Derived.Test.YtgaeofgdiaknpaaGreatProg
import Derived.WalkKit
import Derived.WalkSpells
import Derived.OpenShut
import Derived.Laws.BitsAllLaws
import Derived.Laws.Pointers
import Derived.Laws.LoneSync
import Derived.Laws.NewBlocks
import Derived.Lib.Builder
import Derived.RegionTactic
import Derived.RegionCalls
import Derived.Deep.DeepCutAuto
import Derived.Deep.RegionWith
import Derived.Deep.QuietTactic
import Derived.Deep.RegionHeld3
import Derived.Maps.AppendAt
import Derived.Test.YtgaeofgdiaknpaaGreatPkR01
set_option maxHeartbeats 64000000
namespace Go.Proofs.YtgaeofgdiaknpaaGreat
set_option maxRecDepth 100000
open Go.RowKit
section
variable {P:Program} {f:FuncId} {fn:Func}
theorem run_call_load_ptr (hf : P.funcs[f]? = some fn) (hname : (fn.name == "runtime.NumGoroutine") = false) (hb : fn.body.isNone = true) (hn : Extern.findNext fn = none)
  (he:Extern.find fn=some (Extern.Atomic.loadT .ptr)) {a:Addr} {p:Option Addr} {w:World} (hc:w.cell? a=some (.pointer p)) :
  (callFunc f #[.pointer (some a)]).run P w=.ok (.value (.pointer p)) w:=by
 rw[run_callFunc_extern hf hname hb hn he]
 change (Sem.run P (do Extern.Atomic.read .ptr (← asAddr (.pointer (some a)))) w).andThen _=_
 simp[Extern.Atomic.read,asAddr,hc,Result.andThen]
theorem run_samePointer_self (p:Option Addr) (w:World):(samePointer p p).run P w=.ok true w:=by
 cases p <;> simp[samePointer,sameAddr]
theorem run_call_cas_ptr (hf : P.funcs[f]? = some fn) (hname : (fn.name == "runtime.NumGoroutine") = false) (hb : fn.body.isNone = true) (hn : Extern.findNext fn = none)
  (he:Extern.find fn=some (Extern.Atomic.casT .ptr)) {a:Addr} {x y:Option Addr} {w:World} (hc:w.cell? a=some (.pointer x)) (hz:w.frozen? a=false) :
  (callFunc f #[.pointer (some a),.pointer x,.pointer y]).run P w=.ok (.value (.bool true)) (w.setCell a (.pointer y)):=by
 rw[run_callFunc_extern hf hname hb hn he]
 change (Sem.run P (do
  let a' ← asAddr (.pointer (some a))
  if ← Extern.Atomic.touchesFrozen a' then unsupported (.unsafePointer "a write to bytes that a string shares")
  let eq ← match Extern.Atomic.T.ptr,← Extern.Atomic.read .ptr a',Value.pointer x with
   | _,.int _ x,.int _ y=>pure (x == y)
   | .ptr,.pointer x,.pointer y=>samePointer x y
   | .int _,.pointer (some _),.int _ 0 | .int _,.int _ 0,.pointer (some _)=>pure false
   | .int _,.pointer (some _),_ | .int _,_,.pointer (some _)=>unsupported .addressObserved
   | _, _, _ => stuck "atomic.CompareAndSwap: old is no T"
  if eq then store a' (.pointer y) .atomic
  pure (Value.bool eq)) w).andThen _=_
 simp[Extern.Atomic.touchesFrozen,Extern.Atomic.read,asAddr,viewAt,World.shape?_isSome_of_cell? hc,hc,hz,run_samePointer_self,run_store P w a (.pointer y) .atomic rfl,Result.andThen]
end
theorem u64_load (a:Addr) (d:Int) (w:World) (h0:w.cell? a=some (.int .u64 d)) :
  Calls Tryz.prog 139 #[.pointer (some a)] w fun e w'=>e=.returned (.int .u64 d)∧w'=w:=by
 have hl:=run_call_load (P:=Tryz.prog) Tryz.func174 (by kernel_rfl) (by kernel_rfl) (by kernel_rfl) .u64 (by kernel_rfl) h0
 go_enter Tryz.func139,Tryz.ntmps139
 go_wp2
 go_ret
 exact⟨rfl,rfl⟩
theorem u64_cas (a:Addr) (x y:Int) (w:World) (h0:w.cell? a=some (.int .u64 x)) (hz:w.frozen? a=false) :
  Calls Tryz.prog 141 #[.pointer (some a),.int .u64 x,.int .u64 y] w fun e w'=>e=.returned (.bool true)∧w'=w.setCell a (.int .u64 y):=by
 have hl:=run_call_cas_hit (P:=Tryz.prog) Tryz.func175 (by kernel_rfl) (by kernel_rfl) (by kernel_rfl) .u64 (by kernel_rfl) (y:=y) h0 hz
 go_enter Tryz.func141,Tryz.ntmps141
 go_wp2
 go_ret
 exact⟨rfl,rfl⟩
theorem i64_load (a:Addr) (d:Int) (w:World) (h0:w.cell? a=some (.int .i64 d)) :
  Calls Tryz.prog 73 #[.pointer (some a)] w fun e w'=>e=.returned (.int .i64 d)∧w'=w:=by
 have hl:=run_call_load (P:=Tryz.prog) Tryz.func96 (by kernel_rfl) (by kernel_rfl) (by kernel_rfl) .i64 (by kernel_rfl) h0
 go_enter Tryz.func73,Tryz.ntmps73
 go_wp2
 go_ret
 exact⟨rfl,rfl⟩
theorem i64_cas (a:Addr) (x y:Int) (w:World) (h0:w.cell? a=some (.int .i64 x)) (hz:w.frozen? a=false) :
  Calls Tryz.prog 241 #[.pointer (some a),.int .i64 x,.int .i64 y] w fun e w'=>e=.returned (.bool true)∧w'=w.setCell a (.int .i64 y):=by
 have hl:=run_call_cas_hit (P:=Tryz.prog) Tryz.func242 (by kernel_rfl) (by kernel_rfl) (by kernel_rfl) .i64 (by kernel_rfl) (y:=y) h0 hz
 go_enter Tryz.func241,Tryz.ntmps241
 go_wp2
 go_ret
 exact⟨rfl,rfl⟩
theorem i64_store (a:Addr) (x y:Int) (w:World) (h0:w.cell? a=some (.int .i64 x)) (hz:w.frozen? a=false) :
  Calls Tryz.prog 201 #[.pointer (some a),.int .i64 y] w fun e w'=>e=.returned (.tuple #[])∧w'=w.setCell a (.int .i64 y):=by
 have hl:=run_call_store (P:=Tryz.prog) Tryz.func212 (by kernel_rfl) (by kernel_rfl) (by kernel_rfl) (by kernel_rfl) (k:=.i64) (y:=y) h0 hz
 go_enter Tryz.func201,Tryz.ntmps201
 go_wp2
 go_end0
 exact⟨rfl,rfl⟩
theorem ptri_load (a:Addr) (p:Option Addr) (w:World) (h0:w.cell? a=some (.pointer p)) (hcv:(convert 143 141 (.pointer p)).run Tryz.prog w=.ok (.pointer p) w) :
  Calls Tryz.prog 142 #[.pointer (some a)] w fun e w'=>e=.returned (.pointer p)∧w'=w:=by
 have hl:=run_call_load_ptr (P:=Tryz.prog) Tryz.func176 (by kernel_rfl) (by kernel_rfl) (by kernel_rfl) (by kernel_rfl) h0
 go_enter Tryz.func142,Tryz.ntmps142
 go_wp2
 go_ret
 exact⟨rfl,rfl⟩
theorem ptri_cas (a:Addr) (p q:Option Addr) (w:World) (h0:w.cell? a=some (.pointer p)) (hz:w.frozen? a=false) (hcp:(convert 141 143 (.pointer p)).run Tryz.prog w=.ok (.pointer p) w)
  (hcq:(convert 141 143 (.pointer q)).run Tryz.prog w=.ok (.pointer q) w) :
  Calls Tryz.prog 143 #[.pointer (some a),.pointer p,.pointer q] w fun e w'=>e=.returned (.bool true)∧w'=w.setCell a (.pointer q):=by
 have hl:=run_call_cas_ptr (P:=Tryz.prog) Tryz.func177 (by kernel_rfl) (by kernel_rfl) (by kernel_rfl) (by kernel_rfl) (y:=q) h0 hz
 go_enter Tryz.func143,Tryz.ntmps143
 go_wp2
 go_ret
 exact⟨rfl,rfl⟩
end Go.Proofs.YtgaeofgdiaknpaaGreat
namespace Go.Proofs.YtgaeofgdiaknpaaGreat
set_option maxRecDepth 100000
open Go.RowKit
structure Off (l:List Nat) (w w':World):Prop where
 os:w'.os=w.os
 tape:w'.tape=w.tape
 output:w'.output=w.output
 size:w.heap.size≤w'.heap.size
 block:∀ k,k<w.heap.size→k ∉ l→w'.heap[k]?=w.heap[k]?
theorem Off.refl (l:List Nat) (w:World):Off l w w:=⟨rfl,rfl,rfl,Nat.le_refl _,fun _ _ _=>rfl⟩
theorem Off.trans {l:List Nat} {u v w:World} (h:Off l u v) (k:Off l v w):Off l u w:=
 ⟨k.os.trans h.os,k.tape.trans h.tape,k.output.trans h.output,Nat.le_trans h.size k.size,fun i hi hb=>(k.block i (Nat.lt_of_lt_of_le hi h.size) hb).trans (h.block i hi hb)⟩
theorem Off.of_below {l:List Nat} {w w':World} (h:Below w.heap.size w w'):Off l w w':=⟨h.os,h.tape,h.output,h.size,fun k hk _=>h.block k hk⟩
theorem Off.more {l m:List Nat} {w w':World} (h:Off l w w') (hs:∀ k,k ∈ l→k ∈ m):Off m w w':=⟨h.os,h.tape,h.output,h.size,fun k hk hb=>h.block k hk fun hm=>hb (hs k hm)⟩
theorem Off.only {l m:List Nat} {w w':World} (h:Off l w w') (hs:∀ k,k ∈ l→k<w.heap.size→k ∈ m):Off m w w':=⟨h.os,h.tape,h.output,h.size,fun k hk hb=>h.block k hk fun hm=>hb (hs k hm hk)⟩
theorem Off.setCell (b i:Nat) (w:World) (v:Value):Off [b] w (w.setCell ⟨b,i,none⟩ v):=⟨rfl,rfl,rfl,by simp[World.setCell],fun k _ hb=>heap_setCell_other w _ k v (by simpa using hb)⟩
theorem Off.alloc (l:List Nat) (w:World) (o:Obj):Off l w (w.alloc o):=Off.of_below ((Below.refl _ _).alloc (Nat.le_refl _) _)
theorem Off.drew (l:List Nat) (w:World):Off l w w.drew:=⟨rfl,rfl,rfl,Nat.le_refl _,fun _ _ _=>rfl⟩
theorem Off.drewN (l:List Nat) (w:World) (n:Nat):Off l w (w.drewN n):=⟨rfl,rfl,rfl,Nat.le_refl _,fun _ _ _=>rfl⟩
theorem Off.below {l:List Nat} {B:Nat} {w0 w w':World} (h:Off l w w') (hb:Below B w0 w) (hB:∀ k,k ∈ l→B≤k) (hs:B≤w.heap.size):Below B w0 w':=
 hb.trans ⟨h.os,h.tape,h.output,h.size,fun k hk=>h.block k (by omega) (fun hm=>by have:=hB k hm;omega)⟩
def MtC (t:Int) (p:Option Addr) (f:Int) (o:Int) (r:Option Addr):Array Value:=#[.int .u64 t,.pointer p,.int .u32 f,.int .u32 o,.pointer r]
structure Met (w:World) (b:Nat) (t:Int) (p:Option Addr) (f:Int) (o:Int) (r:Option Addr):Prop where
 at_:w.heap[b]?=some (.cells (MtC t p f o r) 154 (0,0))
theorem Met.lt {w:World} {b:Nat} {t f o:Int} {p r:Option Addr} (h:Met w b t p f o r):b<w.heap.size:=(Array.getElem?_eq_some_iff.1 h.at_).1
theorem Met.c0 {w:World} {b:Nat} {t f o:Int} {p r:Option Addr} (h:Met w b t p f o r):w.cell? ⟨b,0,none⟩=some (.int .u64 t):=cell_of_row w b 0 _ _ _ h.at_
theorem Met.c1 {w:World} {b:Nat} {t f o:Int} {p r:Option Addr} (h:Met w b t p f o r):w.cell? ⟨b,1,none⟩=some (.pointer p):=cell_of_row w b 1 _ _ _ h.at_
theorem Met.fz {w:World} {b:Nat} {t f o:Int} {p r:Option Addr} (h:Met w b t p f o r) (j:Nat):w.frozen? ⟨b,j,none⟩=false:=frozen_of_row w b j _ _ h.at_
theorem Met.off {l:List Nat} {w w':World} {b:Nat} {t f o:Int} {p r:Option Addr} (h:Met w b t p f o r) (k:Off l w w') (hb:b ∉ l):Met w' b t p f o r:=⟨(k.block b h.lt hb).trans h.at_⟩
theorem Met.s0 {w:World} {b:Nat} {t f o:Int} {p r:Option Addr} (h:Met w b t p f o r) (t':Int):Met (w.setCell ⟨b,0,none⟩ (.int .u64 t')) b t' p f o r:=⟨heap_setCell_same _ _ _ _ _ _ h.at_⟩
theorem Met.s1 {w:World} {b:Nat} {t f o:Int} {p r:Option Addr} (h:Met w b t p f o r) (p':Option Addr):Met (w.setCell ⟨b,1,none⟩ (.pointer p')) b t p' f o r:=⟨heap_setCell_same _ _ _ _ _ _ h.at_⟩
inductive Pk (M:Nat) (w:World):Option Addr→Option Int→Prop where
 | none:Pk M w none none
 | some (c:Nat) (v:Int) (h:M≤c) (hc:w.heap[c]?=some (.cells #[.int .i64 v] 2 (0,0))):Pk M w (some ⟨c,0,Option.none⟩) (some v)
def sat (a b:Nat):Nat:=if 18446744073709551615-a<b then 18446744073709551615 else a+b
theorem new_any (w:World) :
  Calls Tryz.prog 38 #[] w fun e w'=>e=.returned (.pointer (some ⟨w.heap.size,0,none⟩))∧w'=w.alloc (.cells (MtC 0 none 0 0 none) 154):=by
 go_enter Tryz.func38,Tryz.ntmps38
 go_wp2
 go_ret
 exact⟨rfl,rfl⟩
theorem new_met (w:World):Met (w.alloc (.cells (MtC 0 none 0 0 none) 154)) w.heap.size 0 none 0 0 none:=⟨heap_alloc_new w _⟩
theorem sumOf_any (a b:Nat) (w:World) (ha:a<18446744073709551616) (hb:b<18446744073709551616) :
  Calls Tryz.prog 140 #[.int .u64 a,.int .u64 b] w fun e w'=>e=.returned (.int .u64 (sat a b:Nat))∧w'=w:=by
 have h1:IntKind.u64.wrap (18446744073709551615 - (a:Int))=((18446744073709551615-a:Nat):Int):=by rw[IntKind.wrap_u64];omega
 by_cases hc:18446744073709551615-a<b
 ·have e:sat a b=18446744073709551615:=by unfold sat;rw[if_pos hc]
  rw[e]
  go_enter Tryz.func140,Tryz.ntmps140
  go_wp2
  go_ret
  exact⟨rfl,rfl⟩
 ·have e:sat a b=a+b:=by unfold sat;rw[if_neg hc]
  rw[e]
  have h2:IntKind.u64.wrap ((a:Int) + (b:Int))=((a+b:Nat):Int):=by rw[IntKind.wrap_u64];omega
  go_enter Tryz.func140,Tryz.ntmps140
  go_wp2
  go_ret
  refine⟨?_,rfl⟩
  first | rfl | (rw[h2]) | simp_all
theorem add_any (t n b:Nat) (p r:Option Addr) (f o:Int) (w:World) (ht:t<18446744073709551616) (hn:n<18446744073709551616) (h:Met w b t p f o r) :
  Calls Tryz.prog 115 #[.pointer (some ⟨b,0,none⟩),.int .u64 n] w fun e w'=>e=.returned (.tuple #[.int .u64 (sat t n:Nat),.int .i64 0])∧w'=w.setCell ⟨b,0,none⟩ (.int .u64 (sat t n:Nat)):=by
 have h0:=h.c0
 have hz:=h.fz 0
 have hl:=u64_load _ _ w h0
 have hs:=sumOf_any t n w ht hn
 have hc:=u64_cas ⟨b,0,none⟩ t (sat t n:Nat) w h0 hz
 generalize sat t n=s at *
 go_enter Tryz.func115,Tryz.ntmps115
 go_wp2_with fail
 refine wp_loop_once ?_
 go_wp2_with (first | (go_at_call 139;refine hl.mono ?_;rintro e w' ⟨rfl,rfl⟩) | (go_at_call 140;refine hs.mono ?_;rintro e w' ⟨rfl,rfl⟩) | (go_at_call 141;refine hc.mono ?_;rintro e w' ⟨rfl,rfl⟩))
 go_ret2
 exact⟨rfl,rfl⟩
theorem shape_of_row (w:World) (c:Nat) (cs:Array Value) (t:TypeId) (fr:Nat × Nat) (h:w.heap[c]?=some (.cells cs t fr)):w.shape? c=some (t,cs.size):=by
 simp[World.shape?,h]
theorem cvi_none (w:World):(convert 143 141 (.pointer none)).run Tryz.prog w=.ok (.pointer none) w:=by kernel_rfl
theorem cvi_none' (w:World):(convert 141 143 (.pointer none)).run Tryz.prog w=.ok (.pointer none) w:=by kernel_rfl
theorem cvi_from (c:Nat) (v:Value) (w:World) (hc:w.heap[c]?=some (.cells #[v] 2 (0,0))):(convert 143 141 (.pointer (some ⟨c,0,none⟩))).run Tryz.prog w=.ok (.pointer (some ⟨c,0,none⟩)) w:=
 Lib.run_from_unsafe (u:=2) (j:=(Tryz.prog.info? 2).get!) w ⟨c,0,none⟩ (by kernel_rfl) (by kernel_rfl) (by kernel_rfl) (shape_of_row w c _ _ _ hc) (by kernel_rfl)
theorem cvi_to (c:Nat) (v:Value) (w:World) (hc:w.heap[c]?=some (.cells #[v] 2 (0,0))):(convert 141 143 (.pointer (some ⟨c,0,none⟩))).run Tryz.prog w=.ok (.pointer (some ⟨c,0,none⟩)) w:=
 run_convert_to_unsafe (t:=2) (by kernel_rfl) (by kernel_rfl) (by kernel_rfl) (cell_of_row w c 0 _ _ _ hc)
theorem raise_first (t:Int) (b:Nat) (r:Option Addr) (f o v:Int) (w:World) (h:Met w b t none f o r) :
  Calls Tryz.prog 116 #[.pointer (some ⟨b,0,none⟩),.int .i64 v] w fun e w'=>e=.returned (.bool true)∧∃ n,w'=((w.alloc (.cells #[.int .i64 v] 2)).drewN n).setCell ⟨b,1,none⟩ (.pointer (some ⟨w.heap.size,0,none⟩)):=by
 have h1:Met (w.alloc (.cells #[.int .i64 v] 2)) b t none f o r:=h.off (Off.alloc [] w _) (by simp)
 have hl:=ptri_load _ _ _ h1.c1 (cvi_none _)
 have hc:∀ n,_:=fun n=>ptri_cas ⟨b,1,none⟩ none (some ⟨w.heap.size,0,none⟩) ((w.alloc (.cells #[.int .i64 v] 2)).drewN n) h1.c1 (h1.fz 1) (cvi_none' _) (cvi_to w.heap.size (.int .i64 v) _ (heap_alloc_new w _))
 clear h1 h
 go_enter Tryz.func116,Tryz.ntmps116
 go_wp2_with fail
 refine wp_loop_once ?_
 go_wp2_with (go_at_call 142;refine hl.mono ?_;rintro e w' ⟨rfl,rfl⟩)
 go_quiet (fail)
 go_wp2_with (go_at_call 143;refine (hc nq).mono ?_;rintro e w' ⟨rfl,rfl⟩)
 go_ret
 exact⟨rfl,_,rfl⟩
theorem raise_up (t:Int) (b c:Nat) (r:Option Addr) (f o x v:Int) (w:World) (h:Met w b t (some ⟨c,0,none⟩) f o r) (hc:w.heap[c]?=some (.cells #[.int .i64 x] 2 (0,0))) (hlt:x<v) :
  Calls Tryz.prog 116 #[.pointer (some ⟨b,0,none⟩),.int .i64 v] w fun e w'=>e=.returned (.bool true)∧∃ n,w'=((w.alloc (.cells #[.int .i64 v] 2)).drewN n).setCell ⟨b,1,none⟩ (.pointer (some ⟨w.heap.size,0,none⟩)):=by
 have h1:Met (w.alloc (.cells #[.int .i64 v] 2)) b t (some ⟨c,0,none⟩) f o r:=h.off (Off.alloc [] w _) (by simp)
 have hc1:(w.alloc (.cells #[.int .i64 v] 2)).heap[c]?=some (.cells #[.int .i64 x] 2 (0,0)):=(heap_alloc_old w _ (Array.getElem?_eq_some_iff.1 hc).1).trans hc
 have hl:=ptri_load _ _ _ h1.c1 (cvi_from c _ _ hc1)
 have hcs:∀ n,_:=fun n=>ptri_cas ⟨b,1,none⟩ (some ⟨c,0,none⟩) (some ⟨w.heap.size,0,none⟩) ((w.alloc (.cells #[.int .i64 v] 2)).drewN n) h1.c1 (h1.fz 1) (cvi_to c _ _ hc1) (cvi_to w.heap.size (.int .i64 v) _ (heap_alloc_new w _))
 have hcell:=cell_of_row _ c 0 _ _ _ hc1
 simp at hcell
 have hle:¬ v≤x:=by omega
 clear h1 h hc hc1
 go_enter Tryz.func116,Tryz.ntmps116
 go_wp2_with fail
 refine wp_loop_once ?_
 go_wp2_with (go_at_call 142;refine hl.mono ?_;rintro e w' ⟨rfl,rfl⟩)
 go_quiet (fail)
 go_wp2_with (go_at_call 143;refine (hcs nq).mono ?_;rintro e w' ⟨rfl,rfl⟩)
 go_ret
 exact⟨rfl,_,rfl⟩
theorem raise_no (t:Int) (b c:Nat) (r:Option Addr) (f o x v:Int) (w:World) (h:Met w b t (some ⟨c,0,none⟩) f o r) (hc:w.heap[c]?=some (.cells #[.int .i64 x] 2 (0,0))) (hle:v≤x) :
  Calls Tryz.prog 116 #[.pointer (some ⟨b,0,none⟩),.int .i64 v] w fun e w'=>e=.returned (.bool false)∧∃ n,w'=(w.alloc (.cells #[.int .i64 v] 2)).drewN n:=by
 have h1:Met (w.alloc (.cells #[.int .i64 v] 2)) b t (some ⟨c,0,none⟩) f o r:=h.off (Off.alloc [] w _) (by simp)
 have hc1:(w.alloc (.cells #[.int .i64 v] 2)).heap[c]?=some (.cells #[.int .i64 x] 2 (0,0)):=(heap_alloc_old w _ (Array.getElem?_eq_some_iff.1 hc).1).trans hc
 have hl:=ptri_load _ _ _ h1.c1 (cvi_from c _ _ hc1)
 have hcell:=cell_of_row _ c 0 _ _ _ hc1
 simp at hcell
 clear h1 h hc hc1
 go_enter Tryz.func116,Tryz.ntmps116
 go_wp2_with fail
 refine wp_loop_once ?_
 go_wp2_with (go_at_call 142;refine hl.mono ?_;rintro e w' ⟨rfl,rfl⟩)
 go_quiet (fail)
 go_wp2_with fail
 go_ret
 exact⟨rfl,_,rfl⟩
open Go.RowKit Go.Maps
abbrev Bfm:=Nat × (Nat→Nat)
def tots (L:List Bfm):Nat:=L.foldl (fun n f=>n+f.1) 0
def pkf (L:List Bfm):Option Int:=L.foldl (fun q f=>if q.all (fun x=>decide (x < (f.1:Int))) then some (f.1:Int) else q) none
theorem tots_app (L:List Bfm) (f:Bfm):tots (L ++ [f])=tots L+f.1:=by simp[tots]
theorem pkf_app (L:List Bfm) (f:Bfm):pkf (L ++ [f])=if (pkf L).all (fun x=>decide (x < (f.1:Int))) then some (f.1:Int) else pkf L:=by unfold pkf;rw[List.foldl_append];rfl
theorem tots_le {L:List Bfm} (h:∀ f,f ∈ L→f.1≤27):tots L≤27*L.length:=by
 have key:∀ (M:List Bfm) (n:Nat),(∀ f,f ∈ M→f.1≤27)→M.foldl (fun n f=>n+f.1) n≤n+27*M.length:=by
  intro M
  induction M with
  | nil=>intro n _;simp
  | cons f M ih=>
   intro n hM
   have h1:=hM f (List.mem_cons_self ..)
   have h2:=ih (n+f.1) (fun g hg=>hM g (List.mem_cons_of_mem _ hg))
   simp only[List.foldl_cons,List.length_cons]
   omega
 have:=key L 0 h
 unfold tots
 omega
theorem own_keep {w w':World} {B e s n:Nat} {v:Value} {xs:List Value} (h:w.ownsRow B e s v n xs) (hk:∀ g,v.ownBlock=some g→w'.heap[g]?=w.heap[g]?):w'.ownsRow B e s v n xs:=by
 obtain⟨h0,h1 | ⟨g,cap,cur,rfl,hg,hgg,rest⟩⟩:=h
 ·exact⟨h0,.inl h1⟩
 ·exact⟨h0,.inr ⟨g,cap,cur,rfl,hg,(hk g rfl).trans hgg,rest⟩⟩
theorem own_type {w:World} {B e s n:Nat} {v:Value} {xs:List Value} (h:w.ownsRow B e s v n xs) {g:Nat} (hg:v.ownBlock=some g):∃ c,w.heap[g]?=some (.cells c e (0,0)):=by
 obtain⟨h0,⟨rfl,_⟩ | ⟨g',cap,cur,rfl,_,hgg,rest⟩⟩:=h
 ·cases hg
 ·simp only[Value.ownBlock,Option.some.injEq]at hg
  subst hg
  exact⟨cur,hgg⟩
theorem own_some1 {w:World} {B e size n:Nat} {v:Value} {xs:List Value} (h:w.ownsRow B e size v (n+1) xs):∃ g cap,v=.slice (some ⟨g,0,none⟩) (n+1) cap∧B≤g∧g<w.heap.size:=by
 rcases h.2 with ⟨_,hn⟩ | ⟨g,cap,cur,rfl,hg,hgg,rest⟩
 ·omega
 ·exact⟨g,cap,rfl,hg,(Array.getElem?_eq_some_iff.1 hgg).1⟩
theorem own_shape {w:World} {B e s n:Nat} {v:Value} {xs:List Value} (h:w.ownsRow B e s v n xs):∃ a cap,v=.slice a n cap:=by
 obtain⟨h0,⟨rfl,rfl⟩ | ⟨g',cap,cur,rfl,rest⟩⟩:=h
 ·exact⟨_,_,rfl⟩
 ·exact⟨_,_,rfl⟩
theorem tdiff {w:World} {k j:Nat} {c c':Array Value} {e e':TypeId} {f f':Nat × Nat} (h:w.heap[k]?=some (.cells c e f)) (h':w.heap[j]?=some (.cells c' e' f')) (ne:e≠e'):k≠j:=by
 rintro rfl
 rw[h]at h'
 simp only[Option.some.injEq,Obj.cells.injEq]at h'
 exact ne h'.2.1
structure Fl (B:Nat) (w:World) (v:Value) (vs:List Value) (L:List Bfm):Prop where
 rows:w.ownsRow B 36 1 v L.length vs
 frs:∀ (i:Nat) (f:Bfm),L[i]?=some f→∃ x,vs[i]?=some x∧w.ownsRow B 5 1 x f.1 (CB f.2 f.1)
 small:∀ (f:Bfm),f ∈ L→f.1≤27∧∀ i,i<f.1→f.2 i<256
 len:L.length≤4096
theorem Fl.keep {B:Nat} {w w':World} {v:Value} {vs:List Value} {L:List Bfm} (h:Fl B w v vs L) {l:List Nat} (k:Off l w w') (hl:∀ x,x ∈ l→x<w.heap.size→v.ownBlock≠some x∧∀ c f,w.heap[x]? ≠ some (.cells c 5 f)):Fl B w' v vs L:=by
 have kk:∀ {e:TypeId} {s n:Nat} {x:Value} {xs:List Value},w.ownsRow B e s x n xs→(∀ g,x.ownBlock=some g→g ∉ l)→w'.ownsRow B e s x n xs:=by
  intro e s n x xs ho hg
  refine own_keep ho fun g eg=>?_
  obtain⟨c,hc⟩:=own_type ho eg
  exact k.block g (Array.getElem?_eq_some_iff.1 hc).1 (hg g eg)
 refine⟨kk h.rows fun g eg hm=>?_,fun i f hi=>?_,h.small,h.len⟩
 ·obtain⟨c,hc⟩:=own_type h.rows eg
  exact (hl g hm (Array.getElem?_eq_some_iff.1 hc).1).1 eg
 ·obtain⟨x,hx,ho⟩:=h.frs i f hi
  refine⟨x,hx,kk ho fun g eg hm=>?_⟩
  obtain⟨c,hc⟩:=own_type ho eg
  exact (hl g hm (Array.getElem?_eq_some_iff.1 hc).1).2 _ _ hc
theorem Fl.below {B:Nat} {w w':World} {v:Value} {vs:List Value} {L:List Bfm} (h:Fl B w v vs L) (k:Below w.heap.size w w'):Fl B w' v vs L:=h.keep (l:=[]) (Off.of_below k) (fun x hx=>by cases hx)
theorem Fl.more {B:Nat} {w wx wy:World} {v v':Value} {vs:List Value} {L:List Bfm} {x:Value} {n:Nat} {bs:Nat→Nat} (h:Fl B w v vs L) (hx:Below w.heap.size w wx) (ho:wx.ownsRow B 5 1 x n (CB bs n)) (h27:n≤27) (hb:∀ i,i<n→bs i<256) (hn:L.length<4096)
  (hr:wy.ownsRow B 36 1 v' (L.length+1) (vs ++ [x])) (hg:wx.grownBy wy v.ownBlock):Fl B wy v' (vs ++ [x]) (L ++ [(n,bs)]):=by
 have hvl:vs.length=L.length:=by have:=h.rows.1;omega
 have kk:∀ {n:Nat} {y:Value} {xs:List Value},wx.ownsRow B 5 1 y n xs→wy.ownsRow B 5 1 y n xs:=by
  intro n y xs hy
  refine own_keep hy fun g eg=>?_
  obtain⟨c,hc⟩:=own_type hy eg
  refine hg.block g (Array.getElem?_eq_some_iff.1 hc).1 fun e=>?_
  obtain⟨c',hc'⟩:=own_type (h.below hx).rows e.symm
  exact tdiff hc hc' (by decide) rfl
 refine⟨by simpa using hr,fun i f hi=>?_,fun f hf=>?_,by simp;omega⟩
 ·by_cases hlt:i<L.length
  ·rw[List.getElem?_append_left hlt]at hi
   obtain⟨y,hy,hoy⟩:=(h.below hx).frs i f hi
   exact⟨y,by rw[List.getElem?_append_left (by omega)];exact hy,kk hoy⟩
  ·have hi':=(List.getElem?_eq_some_iff.1 hi).1
   simp only[List.length_append,List.length_cons,List.length_nil]at hi'
   obtain rfl:i=L.length:=by omega
   simp only[List.getElem?_append_right (Nat.le_refl _),Nat.sub_self,List.getElem?_cons_zero,Option.some.injEq]at hi
   subst hi
   refine⟨x,?_,kk ho⟩
   rw[← hvl,List.getElem?_append_right (Nat.le_refl _),Nat.sub_self]
   rfl
 ·rcases List.mem_append.1 hf with hf | hf
  ·exact h.small f hf
  ·simp only[List.mem_singleton]at hf
   subst hf
   exact⟨h27,hb⟩
theorem Fl.at_ {B:Nat} {w:World} {v:Value} {vs:List Value} {L:List Bfm} (h:Fl B w v vs L) {i:Nat} {f:Bfm} (hi:L[i]?=some f):∃ a cap,vs[i]?=some (.slice a f.1 cap)∧Row8 w a f.1 cap f.2:=by
 obtain⟨x,hx,ho⟩:=h.frs i f hi
 have hm:f ∈ L:=List.mem_of_getElem? hi
 obtain⟨a,cap,rfl,R⟩:=own_row8 ho (h.small f hm).2
 exact⟨a,cap,hx,R⟩
structure Bg (B:Nat) (w:World) (b m:Nat) (v:Value) (vs:List Value) (p:Option Addr) (L:List Bfm):Prop where
 at_:w.heap[b]?=some (.cells #[v,.pointer (some ⟨m,0,none⟩)] 93 (0,0))
 fl:Fl B w v vs L
 met:Met w m (tots L:Nat) p 0 0 none
 pk:Pk 0 w p (pkf L)
 bB:B≤b
 mB:B≤m
theorem Bg.lt {B:Nat} {w:World} {b m:Nat} {v:Value} {vs:List Value} {p:Option Addr} {L:List Bfm} (h:Bg B w b m v vs p L):b<w.heap.size:=(Array.getElem?_eq_some_iff.1 h.at_).1
theorem Bg.off {B:Nat} {w w':World} {b m:Nat} {v:Value} {vs:List Value} {p:Option Addr} {L:List Bfm} (h:Bg B w b m v vs p L) {l:List Nat} (k:Off l w w') (hl:∀ x,x ∈ l→x<w.heap.size→x≠b∧x≠m∧v.ownBlock≠some x∧∀ c f,w.heap[x]? ≠ some (.cells c 5 f)∧w.heap[x]? ≠ some (.cells c 2 f)):Bg B w' b m v vs p L:=by
 refine⟨(k.block b h.lt fun hm=>(hl b hm h.lt).1 rfl).trans h.at_,h.fl.keep k fun x hx hs=>⟨(hl x hx hs).2.2.1,fun c f=>((hl x hx hs).2.2.2 c f).1⟩,h.met.off k fun hm=>(hl m hm h.met.lt).2.1 rfl,?_,h.bB,h.mB⟩
 have hp:=h.pk
 generalize pkf L=q at hp
 cases hp with
 | none=>exact .none
 | some c v' h' hc=>exact .some c v' h' ((k.block c (Array.getElem?_eq_some_iff.1 hc).1 fun hm=>((hl c hm (Array.getElem?_eq_some_iff.1 hc).1).2.2.2 _ _).2 hc).trans hc)
theorem Bg.below {B:Nat} {w w':World} {b m:Nat} {v:Value} {vs:List Value} {p:Option Addr} {L:List Bfm} (h:Bg B w b m v vs p L) (k:Below w.heap.size w w'):Bg B w' b m v vs p L:=h.off (l:=[]) (Off.of_below k) (fun x hx=>by cases hx)
theorem Bg.c0 {B:Nat} {w:World} {b m:Nat} {v:Value} {vs:List Value} {p:Option Addr} {L:List Bfm} (h:Bg B w b m v vs p L):w.cell? ⟨b,0,none⟩=some v:=cell_of_row w b 0 _ _ _ h.at_
theorem Bg.c1 {B:Nat} {w:World} {b m:Nat} {v:Value} {vs:List Value} {p:Option Addr} {L:List Bfm} (h:Bg B w b m v vs p L):w.cell? ⟨b,1,none⟩=some (.pointer (some ⟨m,0,none⟩)):=cell_of_row w b 1 _ _ _ h.at_
theorem bnew_any (w:World) :
  Calls Tryz.prog 20 #[] w fun e w'=>e=.returned (.pointer (some ⟨w.heap.size+1,0,none⟩))∧Hid (Below w.heap.size w w'∧Bg w.heap.size w' (w.heap.size+1) w.heap.size (.slice none 0 0) [] none []∧w'.heap.size=w.heap.size+2):=by
 have hN:=new_any w
 go_enter Tryz.func20,Tryz.ntmps20
 go_wp2_with (go_at_call 38;refine hN.mono ?_;rintro e w' ⟨rfl,rfl⟩)
 go_ret
 have hs:(w.alloc (.cells (MtC 0 none 0 0 none) 154)).heap.size=w.heap.size+1:=World.size_alloc _ _
 refine⟨rfl,((Below.refl _ _).alloc (Nat.le_refl _) _).alloc (by rw[hs];omega) _,⟨?_,⟨⟨rfl,.inl ⟨rfl,rfl⟩⟩,fun i f hi=>by simp at hi,fun f hf=>by simp at hf,by simp⟩,?_,.none,by omega,Nat.le_refl _⟩,by rw[World.size_alloc,hs]⟩
 ·have:=heap_alloc_new (w.alloc (.cells (MtC 0 none 0 0 none) 154)) (.cells #[.slice none 0 0,.pointer (some ⟨w.heap.size,0,none⟩)] 93)
  rw[hs]at this
  exact this
 ·exact (new_met w).off (Off.alloc [] _ _) (by simp)
theorem blen_any (B:Nat) (b m:Nat) (v:Value) (vs:List Value) (p:Option Addr) (L:List Bfm) (w:World) (h:Bg B w b m v vs p L) :
  Calls Tryz.prog 32 #[.pointer (some ⟨b,0,none⟩)] w fun e w'=>e=.returned (.int .i64 (L.length:Nat))∧w'=w:=by
 have c0:=h.c0
 obtain⟨a,cap,rfl⟩:=own_shape h.fl.rows
 generalize L.length=n at *
 clear h
 go_enter Tryz.func32,Tryz.ntmps32
 go_wp2_with fail
 go_ret
 exact⟨rfl,rfl⟩
theorem build0B (w:World):(Instr.buildSlice 36 0 #[]).run Tryz.prog w=.ok (.slice (some ⟨w.heap.size,0,none⟩) 0 0) (w.alloc (.cells #[] 5)):=by kernel_rfl
theorem own0B (B:Nat) (bs:Nat→Nat) (w:World) (h:B≤w.heap.size):(w.alloc (.cells #[] 5)).ownsRow B 5 1 (.slice (some ⟨w.heap.size,0,none⟩) 0 0) 0 (CB bs 0):=World.ownsRow_made w #[] 0 h (Nat.zero_le _) rfl
set_option maxRecDepth 100000 in
theorem clone_any (a:Option Addr) (n cap:Nat) (bs:Nat→Nat) (w:World) (R:Row8 w a n cap bs) (hn:n≤140737488351232) :
  Calls Tryz.prog 25 #[.slice a n cap] w fun e w'=>∃ a' cap',e=.returned (.slice a' n cap')∧Hid (Below w.heap.size w w'∧w'.ownsRow w.heap.size 5 1 (.slice a' n cap') n (CB bs n)):=by
 cases a with
 | none=>
  obtain⟨rfl,rfl⟩:=R.nil rfl
  have he:∀ w:World,(binOp .eql 36 (.slice none 0 0) (.slice none 0 0)).run Tryz.prog w=.ok (.bool true) w:=fun _=>rfl
  go_enter Tryz.func25,Tryz.ntmps25
  go_wp2_with fail
  go_ret
  exact⟨_,_,rfl,Below.refl _ _,⟨rfl,.inl ⟨rfl,rfl⟩⟩⟩
 | some x=>
  obtain⟨i0,hi,hz0,hz1,hz2⟩:=info_parts info_u8
  have hbd:=build0B
  have he:∀ w:World,(binOp .eql 36 (.slice (some x) n cap) (.slice none 0 0)).run Tryz.prog w=.ok (.bool false) w:=fun _=>rfl
  have hbelA:Below w.heap.size w (w.alloc (.cells #[] 5)):=(Below.refl _ _).alloc (Nat.le_refl _) _
  have R0:=R.below hbelA
  have O0:=own0B w.heap.size bs w (Nat.le_refl _)
  have hszA:=hbelA.size
  have hby:=R.byte
  go_enter Tryz.func25,Tryz.ntmps25
  go_wp2_with (at_builtin;refine wpList_append_row8 rfl (.tmp 5) (.tmp 6) 36 rfl w.heap.size 5 i0 (.int .u8 0) Tryz.underlying36 hi hz0 hz1 hz2 rfl _ 0 _ rfl O0 (some x) n cap bs rfl R0 (by unfold maxLen;omega) (by omega) hszA ?_)
  intro v2 w2 hown2 hgrow2
  have hbel2:Below w.heap.size w w2:=hbelA.grown hgrow2 hszA (fun k hk=>(O0.lt k hk).1)
  replace hown2:w2.ownsRow w.heap.size 5 1 v2 n (CB bs n):=by simpa [CB] using hown2
  obtain⟨a2,k2,rfl,_⟩:=own_row8 hown2 hby
  have H:Hid (Below w.heap.size w w2∧w2.ownsRow w.heap.size 5 1 (.slice a2 n k2) n (CB bs n)):=⟨hbel2,hown2⟩
  clear hown2 hbel2 hgrow2 O0 R0 R hbelA hby
  go_wp2_with fail
  go_ret
  exact⟨_,_,rfl,H.out⟩
theorem bget_any (B:Nat) (b m:Nat) (v:Value) (vs:List Value) (p:Option Addr) (L:List Bfm) (i:Nat) (f:Bfm) (w:World) (h:Bg B w b m v vs p L) (hi:L[i]?=some f) :
  Calls Tryz.prog 83 #[.pointer (some ⟨b,0,none⟩),.int .i64 (i:Nat)] w fun e w'=>∃ a' cap',e=.returned (.tuple #[.slice a' f.1 cap',.int .i64 0])∧Hid (Below w.heap.size w w'∧w'.ownsRow w.heap.size 5 1 (.slice a' f.1 cap') f.1 (CB f.2 f.1)):=by
 have hlt:=(List.getElem?_eq_some_iff.1 hi).1
 have hlen:=h.fl.len
 obtain⟨a,cap,hv,R⟩:=h.fl.at_ hi
 have h27:=(h.fl.small f (List.mem_of_getElem? hi)).1
 have c0:=h.c0
 have hr:=h.fl.rows
 obtain⟨n,en⟩:∃ n,n=L.length:=⟨_,rfl⟩
 rw[← en]at hlt hlen hr
 cases n with
 | zero=>omega
 | succ n=>
  obtain⟨g,capv,rfl,_,_⟩:=own_some1 hr
  have cv:w.cell? ⟨g,i,none⟩=some (.slice a f.1 cap):=(hr.cellAt i (by omega)).trans hv
  have hC:=clone_any a f.1 cap f.2 w R (by omega)
  have h0:¬ ((i:Int)<0):=by omega
  have h1:¬ (((n+1:Nat):Int) ≤ (i:Int)):=by omega
  clear h hr hv R hi
  go_enter Tryz.func83,Tryz.ntmps83
  go_wp2_with (go_at_call 25;refine hC.mono ?_;rintro e w' ⟨a',cap',rfl,H⟩)
  go_ret2
  exact⟨_,_,rfl,H⟩
theorem bget_out (B:Nat) (b m:Nat) (v:Value) (vs:List Value) (p:Option Addr) (L:List Bfm) (i:Int) (w:World) (h:Bg B w b m v vs p L) (hi:i<0∨(L.length:Int)≤i) :
  Calls Tryz.prog 83 #[.pointer (some ⟨b,0,none⟩),.int .i64 i] w fun e w'=>e=.returned (.tuple #[.slice none 0 0,.int .i64 151])∧w'=w:=by
 have c0:=h.c0
 obtain⟨a,cap,rfl⟩:=own_shape h.fl.rows
 generalize L.length=n at *
 clear h
 by_cases h0:i<0
 ·clear hi
  go_enter Tryz.func83,Tryz.ntmps83
  go_wp2_with fail
  go_ret2
  exact⟨rfl,rfl⟩
 ·have h1:(n:Int)≤i:=by omega
  clear hi
  go_enter Tryz.func83,Tryz.ntmps83
  go_wp2_with fail
  go_ret2
  exact⟨rfl,rfl⟩
theorem info_bsB:(Tryz.prog.info? 36).map (fun i=>(i.zero,i.size,i.bytes))=some (some (.slice none 0 0),1,24):=by kernel_rfl
theorem belowAB {B:Nat} {w0 w:World} (h:Below B w0 w) (hs:B≤w0.heap.size) (o:Obj):Below B w0 (w.alloc o):=h.alloc (Nat.le_trans hs h.size) o
theorem below_drewNB {B:Nat} {w0 w:World} (h:Below B w0 w) (n:Nat):Below B w0 (w.drewN n):=⟨h.os,h.tape,h.output,h.size,h.block⟩
theorem step_appF {ops:Array Oper} {o:Oper} {a:Act} {w:World} {K:Act→World→Prop} {Q:Exit→Act→World→Prop} {E:Prop}
  (hg:o.guard=none) (s x:Operand) (hop:o.op=Op.call { callee:=Callee.builtin Builtin.append,args:=#[s,x],argTypes:=#[91,91] }) (hty:o.type=91)
  (B n g:Nat) (vs:List Value) (y v:Value) (hs:a.eval s=v) (hown:w.ownsRow B 36 1 v n vs) (hx:a.eval x=.slice (some ⟨g,0,none⟩) 1 1)
  (hgc:w.cell? ⟨g,0,none⟩=some y) (hy:y.oneCell'=true) (hn:n<1000000) (hB:B≤w.heap.size)
  (hK:∀ g' cap' w',Hid (w'.ownsRow B 36 1 (.slice (some ⟨g',0,none⟩) (n+1) cap') (n+1) (vs ++ [y])∧w.grownBy w' v.ownBlock∧(v.ownBlock=some g'∨g'=w.heap.size))→K (a.put o.dst (.slice (some ⟨g',0,none⟩) (n+1) cap')) w') :
  if Region.wanted o (yielded ops a.tmps)=true then Oper.wp Tryz.prog o a w K Q else E:=by
 have hw:Region.wanted o (yielded ops a.tmps)=true:=by simp[Region.wanted,hg]
 rw[if_pos hw]
 obtain⟨i,hi,h0,h1,h2⟩:=info_parts info_bsB
 obtain⟨v',w',hrun,h3,h4,_,h5⟩:=run_append_own_at w B 91 91 36 i _ 1 24 Tryz.underlying91 hi h0 h1 h2 rfl (by decide) v n vs hown ⟨g,0,none⟩ 1 1 [y] rfl (by
  intro j u hj
  cases j with
  | zero=>simp at hj;subst hj;simpa [Addr.add] using hgc
  | succ j=>simp at hj) (by intro u hu;simp at hu;subst hu;exact hy) (by unfold maxLen;omega) (by omega) hB
 obtain⟨g',cap',rfl,_,_⟩:=own_some1 h3
 unfold Oper.wp execOp
 simp only[hop,hty,resolve,invoke,builtin,Sem.run_bind,Sem.run_pure,Result.andThen_ok,List.map_toArray,List.map_cons,List.map_nil,hs,hx,hrun]
 refine hK g' cap' w' ⟨h3,h4,?_⟩
 rcases h5 with h5 | h5
 ·left;rw[← h5];rfl
 ·right;simpa [Value.ownBlock] using h5
theorem step_callB {P:Program} {ops:Array Oper} {o:Oper} {a:Act} {w:World} {K:Act→World→Prop} {Q:Exit→Act→World→Prop} {E:Prop} {R:Value→World→Prop}
  (f:FuncId) (ts:Array Operand) (ty:Array TypeId) (_:o.op=.call { callee:=.value (.func f),args:=ts,argTypes:=ty }) (hw:Region.wanted o (yielded ops a.tmps)=true) (args:Array Value) (hrun:(execOp a.eval o).run P w=.ok (.enter f args) w) (hc:Calls P f args w fun e w'=>∃ v,e=.returned v∧R v w') (hK:∀ v w',R v w'→K (a.put o.dst v) w') :
  if Region.wanted o (yielded ops a.tmps)=true then Oper.wp P o a w K Q else E:=by
 rw[if_pos hw]
 unfold Oper.wp
 rw[hrun]
 refine hc.mono ?_
 rintro e w'' ⟨v,rfl,hr⟩
 exact hK _ _ hr
theorem Row8.offB {l:List Nat} {w w':World} {a:Option Addr} {len cap:Nat} {bs:Nat→Nat} (h:Row8 w a len cap bs) (q:Off l w w') (hl:∀ x,a=some x→x.block ∉ l):Row8 w' a len cap bs:=by
 refine⟨h.byte,h.nil,fun x hx i hi=>?_,h.le⟩
 have h1:=h.src x hx i hi
 have hlt:=World.block_lt_of_cell? w _ h1
 have hb:(x.add i).block=x.block:=by unfold Addr.add;split <;> rfl
 have he:w'.heap[(x.add i).block]?=w.heap[(x.add i).block]?:=q.block _ hlt (by rw[hb];exact hl x hx)
 rw[← h1]
 unfold World.cell?
 rw[he]
theorem Bg.put {B:Nat} {w w2 wx wa wy:World} {b m g cap:Nat} {v:Value} {vs:List Value} {p p':Option Addr} {L:List Bfm} {x:Value} {n:Nat} {bs:Nat→Nat} (h:Bg B w b m v vs p L)
  (o2:Off [m] w w2) (h2m:Met w2 m (tots (L ++ [(n,bs)]):Nat) p' 0 0 none) (h2p:Pk 0 w2 p' (pkf (L ++ [(n,bs)])))
  (hx:Below w2.heap.size w2 wx) (ho:wx.ownsRow w2.heap.size 5 1 x n (CB bs n)) (h27:n≤27) (hb:∀ i,i<n→bs i<256) (hn:L.length<4096) (hBw:B≤w2.heap.size)
  (ha:Below wx.heap.size wx wa) (hr:wy.ownsRow B 36 1 (.slice (some ⟨g,0,none⟩) (L.length+1) cap) (L.length+1) (vs ++ [x])) (hg:wa.grownBy wy v.ownBlock) (hgb:v.ownBlock=some g∨g=wa.heap.size) :
  Off (b :: m :: v.ownBlock.toList) w (wy.setCell ⟨b,0,none⟩ (.slice (some ⟨g,0,none⟩) (L.length+1) cap)) ∧
  Bg B (wy.setCell ⟨b,0,none⟩ (.slice (some ⟨g,0,none⟩) (L.length+1) cap)) b m (.slice (some ⟨g,0,none⟩) (L.length+1) cap) (vs ++ [x]) p' (L ++ [(n,bs)])∧(v.ownBlock=some g∨w.heap.size≤g):=by
 have f2:Fl B w2 v vs L:=h.fl.keep o2 fun y hy hs=>by
  simp only[List.mem_singleton]at hy
  subst hy
  refine⟨fun e=>?_,fun c f hc=>?_⟩
  ·obtain⟨c,hc⟩:=own_type h.fl.rows e
   exact tdiff h.met.at_ hc (by decide) rfl
  ·exact tdiff h.met.at_ hc (by decide) rfl
 have hbm:b≠m:=tdiff h.at_ h.met.at_ (by decide)
 have b2:w2.heap[b]?=_:=(o2.block b h.lt (by simpa using hbm)).trans h.at_
 have h2a:Below w2.heap.size w2 wa:=hx.trans (ha.mono hx.size)
 have f3:=f2.more h2a (own_below (own_base ho hBw) ha) h27 hb hn hr hg
 have rest:∀ (k:Nat) (c:Array Value) (e:TypeId) (f:Nat × Nat),w2.heap[k]?=some (.cells c e f)→e≠36→wy.heap[k]?=some (.cells c e f):=by
  intro k c e f hk he
  have hlt:=(Array.getElem?_eq_some_iff.1 hk).1
  have hka:wa.heap[k]?=_:=(h2a.block k hlt).trans hk
  refine (hg.block k (Nat.lt_of_lt_of_le hlt h2a.size) fun ek=>?_).trans hka
  obtain⟨c',hc'⟩:=own_type (f2.below h2a).rows ek.symm
  exact tdiff hka hc' he rfl
 have by_:=rest b _ _ _ b2 (by decide)
 have o3:=Off.setCell b 0 wy (.slice (some ⟨g,0,none⟩) (L.length+1) cap)
 have my:Met wy m (tots (L ++ [(n,bs)]):Nat) p' 0 0 none:=⟨rest m _ _ _ h2m.at_ (by decide)⟩
 have py:Pk 0 wy p' (pkf (L ++ [(n,bs)])):=by
  generalize pkf (L ++ [(n,bs)])=q at h2p
  cases h2p with
  | none=>exact .none
  | some c v' h' hc=>exact .some c v' h' (rest c _ _ _ hc (by decide))
 have B0:Bg B (wy.setCell ⟨b,0,none⟩ (.slice (some ⟨g,0,none⟩) (L.length+1) cap)) b m (.slice (some ⟨g,0,none⟩) (L.length+1) cap) (vs ++ [x]) p' (L ++ [(n,bs)]):=by
  refine⟨heap_setCell_same _ _ _ _ _ _ by_,f3.keep o3 fun y hy hs=>?_,my.off o3 (by simpa using hbm.symm),?_,h.bB,h.mB⟩
  ·simp only[List.mem_singleton]at hy
   subst hy
   refine⟨fun e=>?_,fun c f hc=>?_⟩
   ·obtain⟨c,hc⟩:=own_type f3.rows e
    exact tdiff by_ hc (by decide) rfl
   ·exact tdiff by_ hc (by decide) rfl
  ·generalize pkf (L ++ [(n,bs)])=q at py
   cases py with
   | none=>exact .none
   | some c v' h' hc=>exact .some c v' h' ((o3.block c (Array.getElem?_eq_some_iff.1 hc).1 (by simpa using tdiff hc by_ (by decide))).trans hc)
 have o4:Off (b :: m :: v.ownBlock.toList) w wy:=by
  have q1:Off (b :: m :: v.ownBlock.toList) w2 wa:=Off.of_below h2a
  have q2:Off (b :: m :: v.ownBlock.toList) wa wy:=⟨hg.os,hg.tape,hg.output,hg.size,fun k hk hm=>hg.block k hk fun e=>hm (by rw[← e];simp)⟩
  exact ((o2.more (by simp)).trans q1).trans q2
 refine⟨o4.trans (o3.more (by simp)),B0,?_⟩
 rcases hgb with e | e
 ·exact .inl e
 ·right
  have:=o2.size
  have:=h2a.size
  omega
def Grb (B:Nat) (w':World) (n at_ x:Nat) (f:Nat→Nat) (v:Value):Prop:=
 ∃ g,w'.ownsRow B 5 1 v n (CB (xr f g) n)∧(∀ i,i<n→g i<256)∧∀ k,k<8*n→PM.fb g k=PM.ly at_ (PM.bl x) x (PM.bl x) k
theorem bgarb_good (B:Nat) (b m:Nat) (v:Value) (vs:List Value) (p:Option Addr) (L:List Bfm) (i:Nat) (f:Bfm) (at_ x:Nat) (w:World) (h:Bg B w b m v vs p L) (hi:L[i]?=some f) (hx:x<4294967296) (hx0:x≠0) (hfit:at_+PM.bl x≤8*f.1) :
  Calls Tryz.prog 82 #[.pointer (some ⟨b,0,none⟩),.int .i64 (i:Nat),.int .i64 (at_:Nat),.int .u32 (x:Nat)] w fun e w'=>∃ g c,e=.returned (.tuple #[.slice (some ⟨g,0,none⟩) f.1 c,.int .i64 0])∧Hid (Below w.heap.size w w'∧Grb w.heap.size w' f.1 at_ x f.2 (.slice (some ⟨g,0,none⟩) f.1 c)∧w.heap.size≤g):=by
 have h27:=(h.fl.small f (List.mem_of_getElem? hi)).1
 have hby:=(h.fl.small f (List.mem_of_getElem? hi)).2
 have hG:=bget_any B b m v vs p L i f w h hi
 clear h hi
 go_enter Tryz.func82,Tryz.ntmps82
 go_wp2_with fail
 refine hG.mono ?_
 rintro e w1 ⟨a1,cap1,rfl,H1⟩
 have hM:=make_good f.1 at_ x w1 hx hx0 (by omega) hfit
 clear hG
 go_wp2_with fail
 refine hM.mono ?_
 rintro e w2 ⟨v2,rfl,H2⟩
 obtain⟨b2,g,og,gb,gl⟩:=H2.out
 obtain⟨a2,cap2,rfl,R2⟩:=own_row8 og gb
 have R1:Row8 w2 a1 f.1 cap1 f.2:=by
  obtain⟨a1',cap1',e1,R1⟩:=own_row8 (own_below H1.out.2 b2) hby
  simp only[Value.slice.injEq,true_and]at e1
  obtain⟨rfl,rfl⟩:=e1
  exact R1
 have hT:=turn_good a1 a2 f.1 cap1 cap2 f.2 g w2 R1 R2 (by omega)
 have HH:Hid (_):=And.intro gb (And.intro gl (And.intro H1.out.1 b2))
 clear hM H2 H1 og gb gl R1 R2 b2
 go_wp2_with fail
 refine hT.mono ?_
 rintro e w3 ⟨c3,rfl,H3⟩
 clear hT
 go_wp2_with fail
 go_ret2
 have s1:=HH.out.2.2.1.size
 have s2:=HH.out.2.2.2.size
 exact⟨_,_,rfl,HH.out.2.2.1.trans ((HH.out.2.2.2.trans (H3.out.1.mono s2)).mono s1),⟨g,own_base H3.out.2 (Nat.le_trans s1 s2),HH.out.1,HH.out.2.1⟩,Nat.le_trans s1 s2⟩
theorem bgarb_bad (B:Nat) (b m:Nat) (v:Value) (vs:List Value) (p:Option Addr) (L:List Bfm) (i:Nat) (f:Bfm) (at_:Int) (x:Nat) (w:World) (h:Bg B w b m v vs p L) (hi:L[i]?=some f) (hx:x<4294967296) (ha : -9223372036854775808≤at_∧at_<9223372036854775808) (he:mkErr f.1 at_ x≠0) :
  Calls Tryz.prog 82 #[.pointer (some ⟨b,0,none⟩),.int .i64 (i:Nat),.int .i64 at_,.int .u32 (x:Nat)] w fun e w'=>e=.returned (.tuple #[.slice none 0 0,.int .i64 (mkErr f.1 at_ x)])∧Hid (Below w.heap.size w w'):=by
 have h27:=(h.fl.small f (List.mem_of_getElem? hi)).1
 have hG:=bget_any B b m v vs p L i f w h hi
 have hM:=fun w1=>make_bad f.1 at_ x w1 hx (by omega) ha he
 generalize mkErr f.1 at_ x=y at *
 clear h hi
 go_enter Tryz.func82,Tryz.ntmps82
 go_wp2_with fail
 refine hG.mono ?_
 rintro e w1 ⟨a1,cap1,rfl,H1⟩
 clear hG
 go_wp2_with fail
 refine (hM _).mono ?_
 rintro e w2 ⟨rfl,rfl⟩
 clear hM
 go_wp2_with fail
 go_ret2
 exact⟨rfl,H1.out.1⟩
theorem bgarb_out (B:Nat) (b m:Nat) (v:Value) (vs:List Value) (p:Option Addr) (L:List Bfm) (i at_ x:Int) (w:World) (h:Bg B w b m v vs p L) (hi:i<0∨(L.length:Int)≤i) :
  Calls Tryz.prog 82 #[.pointer (some ⟨b,0,none⟩),.int .i64 i,.int .i64 at_,.int .u32 x] w fun e w'=>e=.returned (.tuple #[.slice none 0 0,.int .i64 151])∧w'=w:=by
 have hG:=bget_out B b m v vs p L i w h hi
 clear h hi
 go_enter Tryz.func82,Tryz.ntmps82
 go_wp2_with fail
 refine hG.mono ?_
 rintro e w1 ⟨rfl,rfl⟩
 clear hG
 go_wp2_with fail
 go_ret2
 exact⟨rfl,rfl⟩
end Go.Proofs.YtgaeofgdiaknpaaGreat
