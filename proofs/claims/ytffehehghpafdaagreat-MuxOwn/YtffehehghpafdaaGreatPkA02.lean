/- Part 3 of the texts on which the proofs of layer 13 rest: contracts of Go functions. -/
import Derived.Test.YtffehehghpafdaaGreatProg
import Derived.WalkKit
import Derived.WalkSpells
import Derived.OpenShut
import Derived.Laws.BitsAllLaws
import Derived.Laws.Pointers
import Derived.Laws.LoneSync
import Derived.Laws.NewBlocks
import Derived.Lib.Builder
import Derived.RegionTactic
import Derived.RegionCalls
import Derived.Deep.DeepCutAuto
import Derived.Deep.RegionWith
import Derived.Deep.QuietTactic
import Derived.Test.YtffehehghpafdaaGreatPkA00
namespace Go.Proofs.YtffehehghpafdaaGreat
set_option maxRecDepth 100000
open Go.RowKit
section
variable {P : Program} {f : FuncId} {fn : Func}
end
theorem u64_load (a : Addr) (d : Int) (w : World) (h0 : w.cell? a = some (.int .u64 d)) :
    Calls Tryz.prog 109 #[.pointer (some a)] w fun e w' => e = .returned (.int .u64 d) ∧ w' = w := by
  have hl := run_call_load (P := Tryz.prog) Tryz.func168 (by kernel_rfl) (by kernel_rfl) (by kernel_rfl) .u64 (by kernel_rfl) h0
  go_enter Tryz.func109, Tryz.ntmps109
  go_wp2
  go_ret
  exact ⟨rfl, rfl⟩
theorem u64_cas (a : Addr) (x y : Int) (w : World) (h0 : w.cell? a = some (.int .u64 x)) (hz : w.frozen? a = false) :
    Calls Tryz.prog 111 #[.pointer (some a), .int .u64 x, .int .u64 y] w fun e w' => e = .returned (.bool true) ∧ w' = w.setCell a (.int .u64 y) := by
  have hl := run_call_cas_hit (P := Tryz.prog) Tryz.func169 (by kernel_rfl) (by kernel_rfl) (by kernel_rfl) .u64 (by kernel_rfl) (y := y) h0 hz
  go_enter Tryz.func111, Tryz.ntmps111
  go_wp2
  go_ret
  exact ⟨rfl, rfl⟩
theorem i64_load (a : Addr) (d : Int) (w : World) (h0 : w.cell? a = some (.int .i64 d)) :
    Calls Tryz.prog 127 #[.pointer (some a)] w fun e w' => e = .returned (.int .i64 d) ∧ w' = w := by
  have hl := run_call_load (P := Tryz.prog) Tryz.func185 (by kernel_rfl) (by kernel_rfl) (by kernel_rfl) .i64 (by kernel_rfl) h0
  go_enter Tryz.func127, Tryz.ntmps127
  go_wp2
  go_ret
  exact ⟨rfl, rfl⟩
theorem i64_store (a : Addr) (x y : Int) (w : World) (h0 : w.cell? a = some (.int .i64 x)) (hz : w.frozen? a = false) :
    Calls Tryz.prog 244 #[.pointer (some a), .int .i64 y] w fun e w' => e = .returned (.tuple #[]) ∧ w' = w.setCell a (.int .i64 y) := by
  have hl := run_call_store (P := Tryz.prog) Tryz.func265 (by kernel_rfl) (by kernel_rfl) (by kernel_rfl) (by kernel_rfl) (k := .i64) (y := y) h0 hz
  go_enter Tryz.func244, Tryz.ntmps244
  go_wp2
  go_end0
  exact ⟨rfl, rfl⟩
end Go.Proofs.YtffehehghpafdaaGreat
namespace Go.Proofs.YtffehehghpafdaaGreat
set_option maxRecDepth 100000
open Go.RowKit
def DC (l c : Nat) : Array Value := #[.int .i64 l, .int .i64 c]
structure DR (w : World) (b l c : Nat) : Prop where
  at_ : w.heap[b]? = some (.cells (DC l c) 225 (0, 0))
  lo : 1 ≤ l
  hi : l ≤ 1048576
  le : c ≤ l
section
variable {w w' : World} {b l c : Nat}
theorem DR.lt (h : DR w b l c) : b < w.heap.size := (Array.getElem?_eq_some_iff.1 h.at_).1
theorem DR.c0 (h : DR w b l c) : w.cell? ⟨b, 0, none⟩ = some (.int .i64 l) := cell_of_row w b 0 _ _ _ h.at_
theorem DR.c1 (h : DR w b l c) : w.cell? ⟨b, 1, none⟩ = some (.int .i64 c) := cell_of_row w b 1 _ _ _ h.at_
theorem DR.fz (h : DR w b l c) (j : Nat) : w.frozen? ⟨b, j, none⟩ = false := frozen_of_row w b j _ _ h.at_
theorem DR.off {m : List Nat} (h : DR w b l c) (q : Off m w w') (hb : b ∉ m) : DR w' b l c := ⟨(q.block b h.lt hb).trans h.at_, h.lo, h.hi, h.le⟩
theorem DR.set (h : DR w b l c) (x : Nat) (hx : x ≤ l) : DR (w.setCell ⟨b, 1, none⟩ (.int .i64 x)) b l x := ⟨heap_setCell_same _ _ _ _ _ _ h.at_, h.lo, h.hi, hx⟩
theorem DR.drewN (h : DR w b l c) (k : Nat) : DR (w.drewN k) b l c := h.off (Off.drewN [] _ k) (by simp)
end
def tk (l c n : Nat) : Nat := c + min n (l - c)
def told (l c n : Nat) : Bool := decide (c < l ∧ l ≤ c + n)
theorem wnew_ok (l : Nat) (w : World) (h1 : 1 ≤ l) (h2 : l ≤ 1048576) :
    Calls Tryz.prog 137 #[.int .i64 l] w fun e w' => e = .returned (.tuple #[.pointer (some ⟨w.heap.size, 0, none⟩), .int .i64 0]) ∧ (Off [] w w' ∧ DR w' w.heap.size l 0) := by
  go_enter Tryz.func137, Tryz.ntmps137
  go_wp2
  go_ret2
  exact ⟨rfl, Off.alloc _ _ _, ⟨heap_alloc_new w _, h1, h2, Nat.zero_le _⟩⟩
theorem wfeed_any (l c b : Nat) (w : World) (h : DR w b l c) :
    Calls Tryz.prog 209 #[.pointer (some ⟨b, 0, none⟩)] w fun e w' => e = .returned (.tuple #[]) ∧ (Off [b] w w' ∧ DR w' b l 0) := by
  have hs := i64_store ⟨b, 1, none⟩ c 0 w h.c1 (h.fz 1)
  have hk : Hid (Off [b] w (w.setCell ⟨b, 1, none⟩ (.int .i64 ((0 : Nat) : Int))) ∧ DR (w.setCell ⟨b, 1, none⟩ (.int .i64 ((0 : Nat) : Int))) b l 0) := ⟨Off.setCell _ _ _ _, h.set _ (Nat.zero_le _)⟩
  clear h
  go_enter Tryz.func209, Tryz.ntmps209
  go_wp2_with fail
  refine hs.mono ?_
  rintro e w' ⟨rfl, hw⟩
  have hj : Hid (Off [b] w w' ∧ DR w' b l 0) := by rw [hw]; exact hk
  clear hk hs hw
  go_wp2_with fail
  go_end0
  exact ⟨rfl, hj.out⟩
theorem wsince_any (l c b : Nat) (w : World) (h : DR w b l c) :
    Calls Tryz.prog 71 #[.pointer (some ⟨b, 0, none⟩)] w fun e w' => e = .returned (.int .i64 c) ∧ w' = w := by
  have hl := i64_load _ _ w h.c1
  clear h
  go_enter Tryz.func71, Tryz.ntmps71
  go_wp2_with (go_at_call 127; refine hl.mono ?_; rintro e w' ⟨rfl, rfl⟩)
  go_ret
  exact ⟨rfl, rfl⟩
end Go.Proofs.YtffehehghpafdaaGreat
