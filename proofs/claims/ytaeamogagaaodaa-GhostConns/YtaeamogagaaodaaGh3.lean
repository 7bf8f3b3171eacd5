/- Layer 18: mayShow, the rules of an output. -/
import Derived.Test.YtaeamogagaaodaaGh2
namespace Go.Proofs.Ytaeamogagaaodaa
open Go.RowKit

def faB (f : Fa) (a : Option Addr) (cap : Nat) : Obj := .cells #[.int .i64 f.k, .int .i64 f.c, .int .i64 f.s, .int .u32 (f.ss : Nat), .int .u32 (f.nn : Nat), .bool f.on, .int .i64 f.cd, .slice a f.n cap] 43
/-- May an output that is on show it? -/
def Co.may (c : Co) (f : Fa) : Bool := if (c.at_ f.s).v.toList.isEmpty = true ∨ f.x.toList ≠ (c.at_ f.s).v.toList then false else decide (f.s = 1) || decide ((c.at_ f.s).ls = c.s)
section
variable (g p : Nat) (c : Co) (w : World)
set_option maxHeartbeats 4000000 in
theorem cmay (f : Fa) (a : Option Addr) (cap : Nat) (h : CoW w g p c) (hr : Row8 w a f.n cap f.b) :
    Calls Try.prog 42 #[.pointer (some ⟨g, p, none⟩), .agg (faC f a cap)] w fun r w' => r = .returned (.bool (c.may f)) ∧ Below w.heap.size w w' := by
  unfold faC
  have b1 : Below w.heap.size w (w.alloc (.cells #[.int .i64 f.k, .int .i64 f.c, .int .i64 f.s, .int .u32 (f.ss : Nat), .int .u32 (f.nn : Nat), .bool f.on, .int .i64 f.cd, .slice a f.n cap] 43)) := (Below.refl _ _).alloc (Nat.le_refl _) _
  have hk : (w.alloc (.cells #[.int .i64 f.k, .int .i64 f.c, .int .i64 f.s, .int .u32 (f.ss : Nat), .int .u32 (f.nn : Nat), .bool f.on, .int .i64 f.cd, .slice a f.n cap] 43)).heap[w.heap.size]? = _ := heap_alloc_new w _
  have hA := fun wx => cat g p wx f.s
  rw [show (if f.s = 1 then p else p + 9) = atP p f.s from rfl] at hA
  have h1 := h.below b1
  have hE := h1.at_ f.s
  have hS := h1.s
  obtain ⟨c0, c1, c2, c3, c4, c5, c6, c7, c8, fz⟩ := hE
  have hq := fun n => conv_any a f.n cap f.b _ (hr.below (belowN b1 n))
  rw [show BA f.b f.n = f.x from rfl] at hq
  unfold Co.may
  have HB : Hid (_) := b1
  clear h h1 hr b1
  generalize c.at_ f.s = e at *
  generalize f.x = X at *
  generalize atP p f.s = q at *
  clear hk
  cases h1 : e.v.toList.isEmpty
  · by_cases h2 : X.toList = e.v.toList
    · rw [if_neg (by simp [h2])]
      by_cases h3 : f.s = 1
      · have h3b : (f.s == 1) = true := by simp [h3]
        have H3 : Hid (f.s = 1) := h3
        clear h3
        go_enter Try.func42, Try.ntmps42
        go_wp2_with (go_at_call 27; refine (hA _).mono ?_; rintro r w' ⟨rfl, hw⟩; have hw := hw.symm; subst hw)
        go_quiet (fail)
        go_wp2_with fail
        go_quiet (fail)
        go_wp2_with fail
        go_ret
        exact ⟨by simp [H3.out], belowN (belowN HB.out _) _⟩
      · have h3b : (f.s == 1) = false := by simp [h3]
        have h4 : ((e.ls : Int) == (c.s : Int)) = decide (e.ls = c.s) := by
          by_cases h : e.ls = c.s
          · simp [h]
          · simp [h]; omega
        go_enter Try.func42, Try.ntmps42
        go_wp2_with (go_at_call 27; refine (hA _).mono ?_; rintro r w' ⟨rfl, hw⟩; have hw := hw.symm; subst hw)
        go_quiet (fail)
        go_wp2_with fail
        go_quiet (fail)
        go_wp2_with fail
        go_ret
        exact ⟨by simp [h3], belowN (belowN HB.out _) _⟩
    · rw [if_pos (.inr h2)]
      have h2' : (X.toList == e.v.toList) = false := by simp [h2]
      go_enter Try.func42, Try.ntmps42
      go_wp2_with (go_at_call 27; refine (hA _).mono ?_; rintro r w' ⟨rfl, hw⟩; have hw := hw.symm; subst hw)
      go_quiet (fail)
      go_wp2_with fail
      go_ret
      exact ⟨rfl, belowN HB.out _⟩
  · rw [if_pos (.inl rfl)]
    go_enter Try.func42, Try.ntmps42
    go_wp2_with (go_at_call 27; refine (hA _).mono ?_; rintro r w' ⟨rfl, hw⟩; have hw := hw.symm; subst hw)
    go_quiet (fail)
    go_wp2_with fail
    go_ret
    exact ⟨rfl, belowN HB.out _⟩
end
end Go.Proofs.Ytaeamogagaaodaa
