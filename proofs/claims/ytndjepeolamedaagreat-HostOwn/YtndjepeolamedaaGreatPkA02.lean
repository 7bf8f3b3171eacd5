/- Part 3 of the texts on which the proofs of layer 13 rest: contracts of Go functions. -/
import Derived.Test.YtndjepeolamedaaGreatProg
import Derived.WalkKit
import Derived.WalkSpells
import Derived.OpenShut
import Derived.Laws.BitsAllLaws
import Derived.Laws.Pointers
import Derived.Laws.LoneSync
import Derived.Laws.NewBlocks
import Derived.Lib.Builder
import Derived.RegionTactic
import Derived.RegionCalls
import Derived.Deep.DeepCutAuto
import Derived.Deep.RegionWith
import Derived.Deep.QuietTactic
import Derived.Test.YtndjepeolamedaaGreatPkA00
namespace Go.Proofs.YtndjepeolamedaaGreat
set_option maxRecDepth 100000
open Go.RowKit
section
variable {P : Program} {f : FuncId} {fn : Func}
end
theorem u64_load (a : Addr) (d : Int) (w : World) (h0 : w.cell? a = some (.int .u64 d)) :
    Calls Tryz.prog 200 #[.pointer (some a)] w fun e w' => e = .returned (.int .u64 d) ∧ w' = w := by
  have hl := run_call_load (P := Tryz.prog) Tryz.func231 (by kernel_rfl) (by kernel_rfl) (by kernel_rfl) .u64 (by kernel_rfl) h0
  go_enter Tryz.func200, Tryz.ntmps200
  go_wp2
  go_ret
  exact ⟨rfl, rfl⟩
theorem u64_cas (a : Addr) (x y : Int) (w : World) (h0 : w.cell? a = some (.int .u64 x)) (hz : w.frozen? a = false) :
    Calls Tryz.prog 222 #[.pointer (some a), .int .u64 x, .int .u64 y] w fun e w' => e = .returned (.bool true) ∧ w' = w.setCell a (.int .u64 y) := by
  have hl := run_call_cas_hit (P := Tryz.prog) Tryz.func240 (by kernel_rfl) (by kernel_rfl) (by kernel_rfl) .u64 (by kernel_rfl) (y := y) h0 hz
  go_enter Tryz.func222, Tryz.ntmps222
  go_wp2
  go_ret
  exact ⟨rfl, rfl⟩
theorem i64_load (a : Addr) (d : Int) (w : World) (h0 : w.cell? a = some (.int .i64 d)) :
    Calls Tryz.prog 131 #[.pointer (some a)] w fun e w' => e = .returned (.int .i64 d) ∧ w' = w := by
  have hl := run_call_load (P := Tryz.prog) Tryz.func188 (by kernel_rfl) (by kernel_rfl) (by kernel_rfl) .i64 (by kernel_rfl) h0
  go_enter Tryz.func131, Tryz.ntmps131
  go_wp2
  go_ret
  exact ⟨rfl, rfl⟩
theorem i64_cas (a : Addr) (x y : Int) (w : World) (h0 : w.cell? a = some (.int .i64 x)) (hz : w.frozen? a = false) :
    Calls Tryz.prog 225 #[.pointer (some a), .int .i64 x, .int .i64 y] w fun e w' => e = .returned (.bool true) ∧ w' = w.setCell a (.int .i64 y) := by
  have hl := run_call_cas_hit (P := Tryz.prog) Tryz.func249 (by kernel_rfl) (by kernel_rfl) (by kernel_rfl) .i64 (by kernel_rfl) (y := y) h0 hz
  go_enter Tryz.func225, Tryz.ntmps225
  go_wp2
  go_ret
  exact ⟨rfl, rfl⟩
theorem i64_store (a : Addr) (x y : Int) (w : World) (h0 : w.cell? a = some (.int .i64 x)) (hz : w.frozen? a = false) :
    Calls Tryz.prog 234 #[.pointer (some a), .int .i64 y] w fun e w' => e = .returned (.tuple #[]) ∧ w' = w.setCell a (.int .i64 y) := by
  have hl := run_call_store (P := Tryz.prog) Tryz.func252 (by kernel_rfl) (by kernel_rfl) (by kernel_rfl) (by kernel_rfl) (k := .i64) (y := y) h0 hz
  go_enter Tryz.func234, Tryz.ntmps234
  go_wp2
  go_end0
  exact ⟨rfl, rfl⟩
end Go.Proofs.YtndjepeolamedaaGreat
namespace Go.Proofs.YtndjepeolamedaaGreat
set_option maxRecDepth 100000
open Go.RowKit
def DC (l c : Nat) : Array Value := #[.int .i64 l, .int .i64 c]
structure DR (w : World) (b l c : Nat) : Prop where
  at_ : w.heap[b]? = some (.cells (DC l c) 202 (0, 0))
  lo : 1 ≤ l
  hi : l ≤ 1048576
  le : c ≤ l
section
variable {w w' : World} {b l c : Nat}
theorem DR.lt (h : DR w b l c) : b < w.heap.size := (Array.getElem?_eq_some_iff.1 h.at_).1
theorem DR.c0 (h : DR w b l c) : w.cell? ⟨b, 0, none⟩ = some (.int .i64 l) := cell_of_row w b 0 _ _ _ h.at_
theorem DR.c1 (h : DR w b l c) : w.cell? ⟨b, 1, none⟩ = some (.int .i64 c) := cell_of_row w b 1 _ _ _ h.at_
theorem DR.fz (h : DR w b l c) (j : Nat) : w.frozen? ⟨b, j, none⟩ = false := frozen_of_row w b j _ _ h.at_
theorem DR.off {m : List Nat} (h : DR w b l c) (q : Off m w w') (hb : b ∉ m) : DR w' b l c := ⟨(q.block b h.lt hb).trans h.at_, h.lo, h.hi, h.le⟩
theorem DR.set (h : DR w b l c) (x : Nat) (hx : x ≤ l) : DR (w.setCell ⟨b, 1, none⟩ (.int .i64 x)) b l x := ⟨heap_setCell_same _ _ _ _ _ _ h.at_, h.lo, h.hi, hx⟩
theorem DR.drewN (h : DR w b l c) (k : Nat) : DR (w.drewN k) b l c := h.off (Off.drewN [] _ k) (by simp)
end
def tk (l c n : Nat) : Nat := c + min n (l - c)
def told (l c n : Nat) : Bool := decide (c < l ∧ l ≤ c + n)
theorem tk_le (l c n : Nat) (h : c ≤ l) : tk l c n ≤ l := by unfold tk; omega
theorem wnew_ok (l : Nat) (w : World) (h1 : 1 ≤ l) (h2 : l ≤ 1048576) :
    Calls Tryz.prog 113 #[.int .i64 l] w fun e w' => e = .returned (.tuple #[.pointer (some ⟨w.heap.size, 0, none⟩), .int .i64 0]) ∧ (Off [] w w' ∧ DR w' w.heap.size l 0) := by
  go_enter Tryz.func113, Tryz.ntmps113
  go_wp2
  go_ret2
  exact ⟨rfl, Off.alloc _ _ _, ⟨heap_alloc_new w _, h1, h2, Nat.zero_le _⟩⟩
set_option maxRecDepth 100000 in
set_option maxHeartbeats 400000 in
theorem goOn_any (l c n b : Nat) (w : World) (h : DR w b l c) (hn : n ≤ 9223372036854775807) :
    Calls Tryz.prog 191 #[.pointer (some ⟨b, 0, none⟩), .int .i64 n] w fun e w' => e = .returned (.bool (told l c n)) ∧ w' = w.setCell ⟨b, 1, none⟩ (.int .i64 (tk l c n : Nat)) := by
  have h0 := h.c0
  have h1 := h.c1
  have hl := i64_load _ _ w h1
  have hc := i64_cas ⟨b, 1, none⟩ c (tk l c n : Nat) w h1 (h.fz 1)
  obtain ⟨_, _, hi, le⟩ := h
  obtain ⟨L, hL⟩ : ∃ L, L = l - c := ⟨_, rfl⟩
  have e1 : IntKind.i64.wrap ((l : Int) - (c : Int)) = ((L : Nat) : Int) := by rw [IntKind.wrap_i64]; omega
  have e4 : told l c n = (decide (0 < L) && decide (L ≤ n)) := by unfold told; rw [Bool.eq_iff_iff]; simp; omega
  have e5 : tk l c n = if L < n then c + L else c + n := by unfold tk; split <;> omega
  generalize told l c n = t at *
  generalize tk l c n = s at *
  rcases Nat.lt_trichotomy L n with g | g | g
  · rw [if_pos g] at e5
    have e3 : IntKind.i64.wrap ((c : Int) + (L : Int)) = (s : Int) := by rw [e5, IntKind.wrap_i64]; omega
    clear e5
    have g2 : L ≤ n := by omega
    by_cases g1 : 0 < L
    · have ht : t = true := by rw [e4]; simp [g1, g2]
      subst ht
      clear e4 hL le hi hn
      go_enter Tryz.func191, Tryz.ntmps191
      go_wp2_with fail
      refine wp_loop_once ?_
      go_wp2_with (first | (go_at_call 131; refine hl.mono ?_; rintro e w' ⟨rfl, rfl⟩) | (go_at_call 225; refine hc.mono ?_; rintro e w' ⟨rfl, rfl⟩))
      go_ret
      exact ⟨rfl, rfl⟩
    · have ht : t = false := by rw [e4]; simp [g1]
      subst ht
      clear e4 hL le hi hn
      go_enter Tryz.func191, Tryz.ntmps191
      go_wp2_with fail
      refine wp_loop_once ?_
      go_wp2_with (first | (go_at_call 131; refine hl.mono ?_; rintro e w' ⟨rfl, rfl⟩) | (go_at_call 225; refine hc.mono ?_; rintro e w' ⟨rfl, rfl⟩))
      go_ret
      exact ⟨rfl, rfl⟩
  · subst g
    rw [if_neg (by omega)] at e5
    have e3 : IntKind.i64.wrap ((c : Int) + (L : Int)) = (s : Int) := by rw [e5, IntKind.wrap_i64]; omega
    clear e5
    by_cases g1 : 0 < L
    · have ht : t = true := by rw [e4]; simp [g1]
      subst ht
      clear e4 hL le hi hn
      go_enter Tryz.func191, Tryz.ntmps191
      go_wp2_with fail
      refine wp_loop_once ?_
      go_wp2_with (first | (go_at_call 131; refine hl.mono ?_; rintro e w' ⟨rfl, rfl⟩) | (go_at_call 225; refine hc.mono ?_; rintro e w' ⟨rfl, rfl⟩))
      go_ret
      exact ⟨rfl, rfl⟩
    · have ht : t = false := by rw [e4]; simp [g1]
      subst ht
      clear e4 hL le hi hn
      go_enter Tryz.func191, Tryz.ntmps191
      go_wp2_with fail
      refine wp_loop_once ?_
      go_wp2_with (first | (go_at_call 131; refine hl.mono ?_; rintro e w' ⟨rfl, rfl⟩) | (go_at_call 225; refine hc.mono ?_; rintro e w' ⟨rfl, rfl⟩))
      go_ret
      exact ⟨rfl, rfl⟩
  · rw [if_neg (by omega)] at e5
    have e3 : IntKind.i64.wrap ((c : Int) + (n : Int)) = (s : Int) := by rw [e5, IntKind.wrap_i64]; omega
    clear e5
    have g1 : 0 < L := by omega
    have ht : t = false := by rw [e4]; simp; omega
    subst ht
    have g2 : ¬ L ≤ n := by omega
    clear e4 hL le hi hn
    go_enter Tryz.func191, Tryz.ntmps191
    go_wp2_with fail
    refine wp_loop_once ?_
    go_wp2_with (first | (go_at_call 131; refine hl.mono ?_; rintro e w' ⟨rfl, rfl⟩) | (go_at_call 225; refine hc.mono ?_; rintro e w' ⟨rfl, rfl⟩))
    go_ret
    exact ⟨rfl, rfl⟩
theorem wticks_any (l c n b : Nat) (w : World) (h : DR w b l c) (hn : n ≤ 9223372036854775807) :
    Calls Tryz.prog 134 #[.pointer (some ⟨b, 0, none⟩), .int .i64 n] w fun e w' => e = .returned (.tuple #[.bool (told l c n), .int .i64 0]) ∧ (Off [b] w w' ∧ DR w' b l (tk l c n)) := by
  have hg := goOn_any l c n b w h hn
  have hk : Hid (Off [b] w (w.setCell ⟨b, 1, none⟩ (.int .i64 (tk l c n : Nat))) ∧ DR (w.setCell ⟨b, 1, none⟩ (.int .i64 (tk l c n : Nat))) b l (tk l c n)) := ⟨Off.setCell _ _ _ _, h.set _ (tk_le l c n h.le)⟩
  generalize told l c n = t at *
  clear h
  go_enter Tryz.func134, Tryz.ntmps134
  go_wp2_with fail
  refine hg.mono ?_
  rintro e w' ⟨rfl, hw⟩
  have hj := hw ▸ hk
  clear hk hg hw
  go_wp2_with fail
  go_ret2
  exact ⟨rfl, hj.out⟩
theorem wticks_neg (n : Int) (b : Nat) (w : World) (hn : n < 0) :
    Calls Tryz.prog 134 #[.pointer (some ⟨b, 0, none⟩), .int .i64 n] w fun e w' => e = .returned (.tuple #[.bool false, .int .i64 2]) ∧ w' = w := by
  go_enter Tryz.func134, Tryz.ntmps134
  go_wp2_with fail
  go_ret2
  exact ⟨rfl, rfl⟩
theorem wfeed_any (l c b : Nat) (w : World) (h : DR w b l c) :
    Calls Tryz.prog 208 #[.pointer (some ⟨b, 0, none⟩)] w fun e w' => e = .returned (.tuple #[]) ∧ (Off [b] w w' ∧ DR w' b l 0) := by
  have hs := i64_store ⟨b, 1, none⟩ c 0 w h.c1 (h.fz 1)
  have hk : Hid (Off [b] w (w.setCell ⟨b, 1, none⟩ (.int .i64 ((0 : Nat) : Int))) ∧ DR (w.setCell ⟨b, 1, none⟩ (.int .i64 ((0 : Nat) : Int))) b l 0) := ⟨Off.setCell _ _ _ _, h.set _ (Nat.zero_le _)⟩
  clear h
  go_enter Tryz.func208, Tryz.ntmps208
  go_wp2_with fail
  refine hs.mono ?_
  rintro e w' ⟨rfl, hw⟩
  have hj : Hid (Off [b] w w' ∧ DR w' b l 0) := by rw [hw]; exact hk
  clear hk hs hw
  go_wp2_with fail
  go_end0
  exact ⟨rfl, hj.out⟩
theorem wsince_any (l c b : Nat) (w : World) (h : DR w b l c) :
    Calls Tryz.prog 63 #[.pointer (some ⟨b, 0, none⟩)] w fun e w' => e = .returned (.int .i64 c) ∧ w' = w := by
  have hl := i64_load _ _ w h.c1
  clear h
  go_enter Tryz.func63, Tryz.ntmps63
  go_wp2_with (go_at_call 131; refine hl.mono ?_; rintro e w' ⟨rfl, rfl⟩)
  go_ret
  exact ⟨rfl, rfl⟩
end Go.Proofs.YtndjepeolamedaaGreat
