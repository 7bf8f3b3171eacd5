/- The memory of layer 7: its block and its bytes' block; reach, Write, Read, Arm, On, Off, Size, Writes. -/
import Derived.Test.YtmleiemlfogffaaGreatRowo
import Derived.Test.YtmleiemlfogffaaGreatOffs
namespace Go.Proofs.YtmleiemlfogffaaGreat
set_option maxRecDepth 100000
open Go.RowKit

/-- '(*sync/atomic.Bool).Load'. -/
theorem mload (a : Addr) (d : Int) (w : World) (h0 : w.cell? a = some (.int .u32 d)) :
    Calls Tryz.prog 181 #[.pointer (some a)] w fun e w' => e = .returned (.bool (d != 0)) ∧ w' = w := by
  have hl := run_call_load (P := Tryz.prog) Tryz.func203 (by kernel_rfl) (by kernel_rfl) (by kernel_rfl) .u32 (by kernel_rfl) h0
  go_enter Tryz.func181, Tryz.ntmps181
  go_wp2
  go_ret
  exact ⟨rfl, rfl⟩
def o32 (b : Bool) : Int := if b then 1 else 0
/-- '(*sync/atomic.Bool).Store'. -/
theorem mstore (a : Addr) (x : Value) (b : Bool) (w : World) (hc : w.cell? a = some x) (hz : w.frozen? a = false) :
    Calls Tryz.prog 106 #[.pointer (some a), .bool b] w fun e w' => e = .returned (.tuple #[]) ∧ w' = w.drew.setCell a (.int .u32 (o32 b)) := by
  have hc' : w.drew.cell? a = some x := by go_simp
  have hz' : w.drew.frozen? a = false := by go_simp
  have hst := fun y : Int => run_call_store (P := Tryz.prog) Tryz.func142 (by kernel_rfl) (by kernel_rfl) (by kernel_rfl) (by kernel_rfl) (k := .u32) (y := y) hc' hz'
  cases b
  · have hst0 := hst 0
    clear hst
    go_enter Tryz.func106, Tryz.ntmps106
    go_wp2
    go_region_calls
    all_goals (go_end0; exact ⟨rfl, rfl⟩)
  · have hst1 := hst 1
    clear hst
    go_enter Tryz.func106, Tryz.ntmps106
    go_wp2
    go_region_calls
    all_goals (go_end0; exact ⟨rfl, rfl⟩)
/-- What a memory holds: its bytes, is the power off, is it armed, the writes left, the writes done. -/
structure Ms where
  bs : Nat → Nat
  off : Bool
  ar : Bool
  l : Int
  t : Int
/-- The slice of the bytes: nothing, or the head of a block of its own. -/
structure Held (w : World) (b g n : Nat) (bs : Nat → Nat) (v : Value) : Prop where
  own : w.ownsRow 0 5 1 v n (CB bs n)
  at_ : (v = .slice none 0 0 ∧ n = 0 ∧ g = b) ∨ (g ≠ b ∧ ∃ cap, v = .slice (some ⟨g, 0, none⟩) n cap)
section
variable {w w' : World} {b g n : Nat} {bs : Nat → Nat} {v : Value}
theorem Held.off {l : List Nat} (h : Held w b g n bs v) (q : Off l w w') (hg : g ∉ l) : Held w' b g n bs v := by
  refine ⟨⟨h.own.1, ?_⟩, h.at_⟩
  rcases h.own.2 with hn | ⟨g', cap, cur, hv, hg0, hgg, rest⟩
  · exact .inl hn
  · rcases h.at_ with ⟨hv', _⟩ | ⟨_, cap', hv'⟩
    · rw [hv] at hv'; simp at hv'
    · rw [hv] at hv'
      simp only [Value.slice.injEq, Option.some.injEq, Addr.mk.injEq, and_true, true_and] at hv'
      obtain ⟨rfl, rfl⟩ := hv'
      exact .inr ⟨_, _, cur, hv, hg0, by rw [q.block _ (Array.getElem?_eq_some_iff.1 hgg).1 hg]; exact hgg, rest⟩
theorem Held.lt (h : Held w b g n bs v) (hb : b < w.heap.size) : g < w.heap.size := by
  rcases h.at_ with ⟨_, _, rfl⟩ | ⟨_, cap, rfl⟩
  · exact hb
  · exact (h.own.lt g rfl).2
theorem Held.row (h : Held w b g n bs v) (hb : ∀ i, i < n → bs i < 256) : ∃ a cap, v = .slice a n cap ∧ Row8 w a n cap bs := own_row8 h.own hb
theorem Held.plain (h : Held w b g n bs v) (hn : 0 < n) : g ≠ b ∧ ∃ cap, v = .slice (some ⟨g, 0, none⟩) n cap := by
  rcases h.at_ with ⟨_, rfl, _⟩ | h
  · omega
  · exact h
theorem Held.here (h : Held w b g n bs v) (q : Off [b] w w') : Held w' b g n bs v := by
  rcases h.at_ with ⟨rfl, rfl, rfl⟩ | hg
  · exact ⟨World.ownsRow_nil _ _ _ _, .inl ⟨rfl, rfl, rfl⟩⟩
  · exact h.off q (by simpa using hg.1)
/-- One byte is written. -/
theorem Held.set (h : Held w b g n bs v) (j x : Nat) (hj : j < n) : Held (w.setCell ⟨g, j, none⟩ (.int .u8 (x : Nat))) b g n (fun i => if i = j then x else bs i) v := by
  obtain ⟨hg, cap, rfl⟩ := h.plain (by omega)
  refine ⟨?_, .inr ⟨hg, cap, rfl⟩⟩
  have := (h.own.stored j (.int .u8 (x : Nat))).1
  rwa [CB_set] at this
end
/-- The block of a memory. -/
def MC (v : Value) (s : Ms) : Array Value := #[v, .int .u32 (o32 s.off), .bool s.ar, .int .i64 s.l, .int .i64 s.t]
structure MR (w : World) (b g n : Nat) (s : Ms) : Prop where
  ex : ∃ v, w.heap[b]? = some (.cells (MC v s) 86 (0, 0)) ∧ Held w b g n s.bs v
  byte : ∀ i, i < n → s.bs i < 256
  l0 : 0 ≤ s.l
  l1 : s.l ≤ 9223372036854775807
  t0 : 0 ≤ s.t
  nn : n ≤ 4096
section
variable {w w' : World} {b g n : Nat} {s : Ms}
theorem MR.lt (h : MR w b g n s) : b < w.heap.size := by
  obtain ⟨v, hv, _⟩ := h.ex
  exact (Array.getElem?_eq_some_iff.1 hv).1
theorem MR.lg (h : MR w b g n s) : g < w.heap.size := by
  obtain ⟨v, hv, hh⟩ := h.ex
  exact hh.lt h.lt
theorem MR.off {l : List Nat} (h : MR w b g n s) (q : Off l w w') (hb : b ∉ l) (hg : g ∉ l) : MR w' b g n s := by
  obtain ⟨v, hv, hh⟩ := h.ex
  exact ⟨⟨v, (q.block b h.lt hb).trans hv, hh.off q hg⟩, h.byte, h.l0, h.l1, h.t0, h.nn⟩
theorem MR.cells (h : MR w b g n s) : ∃ a cap, w.cell? ⟨b, 0, none⟩ = some (.slice a n cap) ∧ Row8 w a n cap s.bs ∧ (0 < n → g ≠ b ∧ a = some ⟨g, 0, none⟩) ∧ w.cell? ⟨b, 1, none⟩ = some (.int .u32 (o32 s.off)) ∧
    w.cell? ⟨b, 2, none⟩ = some (.bool s.ar) ∧ w.cell? ⟨b, 3, none⟩ = some (.int .i64 s.l) ∧ w.cell? ⟨b, 4, none⟩ = some (.int .i64 s.t) ∧ ∀ j, w.frozen? ⟨b, j, none⟩ = false := by
  obtain ⟨v, hv, hh⟩ := h.ex
  obtain ⟨a, cap, rfl, hr⟩ := hh.row h.byte
  refine ⟨a, cap, cell_of_row w b 0 _ _ _ hv, hr, fun hn => ?_, cell_of_row w b 1 _ _ _ hv, cell_of_row w b 2 _ _ _ hv, cell_of_row w b 3 _ _ _ hv, cell_of_row w b 4 _ _ _ hv, fun j => frozen_of_row w b j _ _ hv⟩
  obtain ⟨hg, cap', he⟩ := hh.plain hn
  simp only [Value.slice.injEq] at he
  exact ⟨hg, he.1⟩
/-- A cell of the bytes' block. -/
theorem MR.held (h : MR w b g n s) (j : Nat) (hj : j < n) : w.cell? ⟨g, j, none⟩ = some (.int .u8 (s.bs j : Nat)) ∧ w.frozen? ⟨g, j, none⟩ = false := by
  obtain ⟨v, hv, hh⟩ := h.ex
  obtain ⟨hg, cap, rfl⟩ := hh.plain (by omega)
  exact ⟨by rw [hh.own.cellAt j (by omega), CB_get _ _ _ hj], hh.own.frozenAt j⟩
theorem MR.upd (h : MR w b g n s) (s' : Ms) (q : Off [b] w w') (hc : ∀ v, w.heap[b]? = some (.cells (MC v s) 86 (0, 0)) → w'.heap[b]? = some (.cells (MC v s') 86 (0, 0)))
    (hbs : s'.bs = s.bs) (l0 : 0 ≤ s'.l) (l1 : s'.l ≤ 9223372036854775807) (t0 : 0 ≤ s'.t) : MR w' b g n s' := by
  obtain ⟨v, hv, hh⟩ := h.ex
  exact ⟨⟨v, hc v hv, hbs ▸ hh.here q⟩, hbs ▸ h.byte, l0, l1, t0, h.nn⟩
theorem MR.put (h : MR w b g n s) (j x : Nat) (hj : j < n) (hx : x < 256) : MR (w.setCell ⟨g, j, none⟩ (.int .u8 (x : Nat))) b g n { s with bs := fun i => if i = j then x else s.bs i } := by
  obtain ⟨v, hv, hh⟩ := h.ex
  have hg := (hh.plain (by omega)).1
  refine ⟨⟨v, (heap_setCell_other w _ b _ (Ne.symm hg)).trans hv, hh.set j x hj⟩, fun i hi => ?_, h.l0, h.l1, h.t0, h.nn⟩
  by_cases e : i = j
  · simp [e, hx]
  · simp [e, h.byte i hi]
theorem MR.drew (h : MR w b g n s) : MR w.drew b g n s := h.off (Off.drew [] _) (by simp) (by simp)
theorem MR.drewN (h : MR w b g n s) (k : Nat) : MR (w.drewN k) b g n s := h.off (Off.drewN [] _ k) (by simp) (by simp)
end
/-- Why a place can't be reached, or 0. -/
def rch (s : Ms) (n : Nat) (p : Int) : Int := if s.off then 70 else if p < 0 ∨ (n : Int) ≤ p then 2 else 0
set_option maxHeartbeats 1000000 in
theorem reach_any (b g n : Nat) (s : Ms) (p : Int) (w : World) (h : MR w b g n s) :
    Calls Tryz.prog 146 #[.pointer (some ⟨b, 0, none⟩), .int .i64 p] w fun e w' => e = .returned (.int .i64 (rch s n p)) ∧ w' = w := by
  obtain ⟨a, cap, c0, _, _, c1, _⟩ := h.cells
  have hl := mload ⟨b, 1, none⟩ _ w c1
  unfold rch
  cases ho : s.off
  · rw [ho] at hl
    have e1 : (o32 false != 0) = false := rfl
    rw [e1] at hl
    by_cases hp : p < 0
    · rw [if_neg (by simp), if_pos (.inl hp)]
      go_enter Tryz.func146, Tryz.ntmps146
      go_wp2_with (go_at_call 181; refine hl.mono ?_; rintro e w' ⟨rfl, rfl⟩)
      go_ret
      exact ⟨rfl, rfl⟩
    · by_cases hn : (n : Int) ≤ p
      · rw [if_neg (by simp), if_pos (.inr hn)]
        go_enter Tryz.func146, Tryz.ntmps146
        go_wp2_with (go_at_call 181; refine hl.mono ?_; rintro e w' ⟨rfl, rfl⟩)
        go_ret
        exact ⟨rfl, rfl⟩
      · rw [if_neg (by simp), if_neg (by omega)]
        go_enter Tryz.func146, Tryz.ntmps146
        go_wp2_with (go_at_call 181; refine hl.mono ?_; rintro e w' ⟨rfl, rfl⟩)
        go_ret
        exact ⟨rfl, rfl⟩
  · rw [ho] at hl
    have e1 : (o32 true != 0) = true := rfl
    rw [e1] at hl
    rw [if_pos rfl]
    go_enter Tryz.func146, Tryz.ntmps146
    go_wp2_with (go_at_call 181; refine hl.mono ?_; rintro e w' ⟨rfl, rfl⟩)
    go_ret
    exact ⟨rfl, rfl⟩
theorem reach_nil (p : Int) (w : World) :
    Calls Tryz.prog 146 #[.pointer none, .int .i64 p] w fun e w' => e = .returned (.int .i64 1) ∧ w' = w := by
  go_enter Tryz.func146, Tryz.ntmps146
  go_wp2_with fail
  go_ret
  exact ⟨rfl, rfl⟩

end Go.Proofs.YtmleiemlfogffaaGreat
