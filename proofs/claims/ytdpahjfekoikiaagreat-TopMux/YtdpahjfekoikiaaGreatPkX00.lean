/- Part 1: contracts that the proof rests on. -/
import Derived.Test.YtdpahjfekoikiaaGreatProg
import Derived.WalkKit
import Derived.WalkSpells
import Derived.OpenShut
import Derived.Deep.RegionHeld3
import Derived.Laws.Rows
import Derived.Laws.IdiomRangeMap
set_option maxHeartbeats 64000000
set_option maxRecDepth 100000
namespace Go.Proofs.YtdpahjfekoikiaaGreat
open Go.RowKit Go.Maps
theorem aP {P:Program} {md:Region.Mode} {ops:Array Oper} {Q:Exit→Act→World→Prop} {S:World→Prop} {i:Nat} {oi:Oper} {v:Value} {fuel:Nat} {listed:Array Bool} {a:Act} {w:World}
  (h:wpAnyH P md ops Q S fuel (listed.setIfInBounds i true) (a.put oi.dst v) w) (hi:ops[i]?=some oi:=by rfl) (hs:Region.noSelect ops=true:=by kernel_rfl) (hf:Region.free md ops listed i=true:=by kernel_rfl) (hr:(Region.ready md ops listed).contains i=true:=by kernel_rfl)
  (hQ:∀ c a w,Q (.panic c) (a.put oi.dst v) w→Q (.panic c) a w:=by exact fun _ _ _ h=>h) (hy:YieldsIf P ops S oi v a:=by exact Or.inl ⟨by kernel_rfl,fun w hSw=>by go_simp⟩) (hS:S w:=by assumption):wpAnyH P md ops Q S (fuel+1) listed a w:=
 wpAnyH_take hi hs hf hr hQ hy hS h
theorem ab (w:World) (g j:Nat) (cs:Array Value) (t:TypeId) (fr:Nat × Nat) (hg:w.heap[g]?=some (.cells cs t fr)):w.cell? ⟨g,j,none⟩=cs[j]?:=cell_of_row w g j cs t fr hg
theorem aB (w:World) (o:Obj):(w.alloc o).heap[w.heap.size]?=some o:=heap_alloc_new w o
abbrev aa (b o:Nat):Value:=.pointer (some ⟨b,o,none⟩)
abbrev ac (b o:Nat):Option Addr:=some ⟨b,o,none⟩
abbrev t5 (a b c:Nat):Array Value:=#[.pointer (some ⟨a,0,none⟩),.pointer (some ⟨b,0,none⟩),.pointer (some ⟨c,0,none⟩)]
abbrev vU:Array Value:=#[.pointer none,.pointer none,.pointer none]
abbrev vI:Array Value:=#[.int .i64 0,.int .u32 0,.int .u32 0,.int .u32 0,.int .i64 0,.int .i64 0,.bool false,.bool false,.slice none 0 0]
abbrev cm:Array Value:=#[.int .i64 0,.int .u32 0,.int .u32 0,.int .u32 0,.int .i64 0,.slice none 0 0]
abbrev vX:Array Value:=#[.int .i64 0,.int .i64 0,.int .i64 0,.int .i64 0,.int .i64 0,.int .u32 0,.int .i64 0,.bool false,.slice none 0 0,.int .i64 0,.int .i64 0,.int .i64 0,.int .u32 0,.int .u32 0,.int .u32 0,.int .i64 0,.int .i64 0,.bool false,.bool false,.slice none 0 0,.int .i64 0,.int .u32 0,.int .u32 0,.int .u32 0,.int .i64 0,.int .i64 0,.bool false,.bool false,.slice none 0 0]
abbrev uL:Array Value:=#[.int .u32 7,.int .i64 2,.int .i64 1,.int .i64 10,.int .u32 9]
abbrev gI (st ss nm sn dc:Nat) (l:Int) (q o:Bool) (a:Option Addr) (n c:Nat):Array Value:=#[.int .i64 (st:Nat),.int .u32 (ss:Nat),.int .u32 (nm:Nat),.int .u32 (sn:Nat),.int .i64 (dc:Nat),.int .i64 l,.bool q,.bool o,.slice a n c]
abbrev vY (x:Int):Value:=.int .i64 x
abbrev we (x:Int):Value:=.int .u32 x
abbrev vZ (x:Nat):Value:=.int .i64 (x:Nat)
abbrev v9 (x:Nat):Value:=.int .u32 (x:Nat)
abbrev vT (k c s f a:Int) (x:Nat) (n:Int) (h:Bool) (d:Option Addr) (l e:Nat):Array Value:=#[.int .i64 k,.int .i64 c,.int .i64 s,.int .i64 f,.int .i64 a,.int .u32 (x:Nat),.int .i64 n,.bool h,.slice d l e]
end Go.Proofs.YtdpahjfekoikiaaGreat
