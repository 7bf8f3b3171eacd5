/- Layer 5: the count is the sum, or the greatest number. -/
import Derived.Test.YtejjhenkhleibaaLaw05
namespace Go.Proofs.Ytejjhenkhleibaa
open Go.RowKit

/-- The count behind n of the numbers, one after the other. -/
def tot (z : Nat → Nat) : Nat → Nat
  | 0 => 0
  | n + 1 => sat (tot z n) (z n)
def ful (z : Nat → Nat) : Nat → Bool
  | 0 => false
  | n + 1 => ful z n || decide (18446744073709551615 - tot z n < z n)
theorem tot_lt (z : Nat → Nat) (n : Nat) : tot z n < 18446744073709551616 := by
  induction n with
  | zero => unfold tot; omega
  | succ n ih => exact sat_lt _ _ ih
theorem ful_top (z : Nat → Nat) (n : Nat) (h : ful z n = true) : tot z n = 18446744073709551615 := by
  induction n with
  | zero => cases h
  | succ n ih =>
    have hs : tot z (n + 1) = sat (tot z n) (z n) := rfl
    rw [hs]
    unfold sat
    by_cases hc : 18446744073709551615 - tot z n < z n
    · rw [if_pos hc]
    · have h1 : ful z n = true := by
        have : ful z (n + 1) = (ful z n || decide (18446744073709551615 - tot z n < z n)) := rfl
        rw [this] at h
        simpa [hc] using h
      have h2 := ih h1
      rw [if_neg hc]; omega
theorem BRow.nums {k : IntKind} {w : World} {a : Option Addr} {len cap : Nat} {zs : List Int} (h : BRow k w a len cap zs) (hp : 0 < len) :
    ∃ b off, a = some ⟨b, off, none⟩ ∧ b < w.heap.size ∧ ∀ i, i < len → w.cell? ⟨b, off + i, none⟩ = some (.int k (zs.getD i 0)) ∧ (Lit.int k (zs.getD i 0)).wf = true := by
  rcases h with ⟨_, rfl, _, _⟩ | ⟨x, rfl, hl, _, hz, hc, hw⟩
  · omega
  · obtain ⟨b, off, spot⟩ := x
    have h0 := hc 0 (by omega)
    have hspot : spot = none := by simpa [Addr.add] using World.cell?_spot h0
    subst hspot
    rw [Go.WideShapes.add_plain] at h0
    refine ⟨b, off, rfl, World.block_lt_of_cell? w _ h0, fun i hi => ⟨?_, hw _ ?_⟩⟩
    · have h1 := hc i (by omega)
      rw [Go.WideShapes.add_plain] at h1
      exact h1
    · rw [List.getD_eq_getElem?_getD, List.getElem?_eq_getElem (by omega)]
      exact List.getElem_mem _
theorem sums_none (a : Option Addr) (cap : Nat) (w : World) :
    Calls Try.prog 4 #[.slice a 0 cap] w fun e w' => e = .returned (.bool true) ∧ Below w.heap.size w w' := by
  have haw := awake5 w
  go_enter Try.func4, Try.ntmps4
  go_wp2_with fail
  refine haw.mono ?_
  rintro e w0 ⟨rfl, hb0⟩
  go_wp2_with fail
  refine (new_any w0).mono ?_
  rintro e w1 ⟨rfl, hw1⟩
  have hb1 := hb0.alloc hb0.size (.cells (MC 0 none 0 0 none) 76)
  rw [← hw1] at hb1
  clear hw1 haw hb0
  generalize w0.heap.size = g at *
  go_wp2_with fail
  refine wp_loop_once ?_
  go_wp2_with fail
  go_ret
  exact ⟨rfl, hb1⟩
set_option maxHeartbeats 2000000 in
theorem sums_some (b off len cap : Nat) (z : Nat → Nat) (w : World) (hlen : len ≤ 9223372036854775807) (hb : b < w.heap.size) (hz : ∀ i, i < len → z i < 18446744073709551616)
    (hc : ∀ i, i < len → w.cell? ⟨b, off + i, none⟩ = some (.int .u64 (z i : Nat))) :
    Calls Try.prog 4 #[.slice (some ⟨b, off, none⟩) len cap] w fun e w' => e = .returned (.bool true) ∧ Below w.heap.size w w' := by
  have haw := awake5 w
  go_enter Try.func4, Try.ntmps4
  go_wp2_with fail
  refine haw.mono ?_
  rintro e w0 ⟨rfl, hb0⟩
  go_wp2_with fail
  refine (new_any w0).mono ?_
  rintro e w1 ⟨rfl, hw1⟩
  have hle := hb0.size
  have m1 := new_met w0
  have hb1 := hb0.alloc hb0.size (.cells (MC 0 none 0 0 none) 76)
  rw [← hw1] at hb1 m1
  clear hw1 haw hb0
  generalize w0.heap.size = g at *
  go_wp2_with fail
  go_loopw [2, 4, 5, 6, 7, 8] (fun _ s f i _ _ wr => ∃ k, k ≤ len ∧ i = .int .i64 ((k : Nat) : Int) ∧ s = .int .u64 (tot z k : Nat) ∧ f = .bool (ful z k) ∧ Met wr g (tot z k : Nat) none 0 0 none ∧ Below w.heap.size w wr) (fun _ _ _ i _ _ _ => len - (intOf i).toNat)
  case atStart => exact ⟨0, by omega, rfl, rfl, rfl, m1, hb1⟩
  case round =>
    clear m1 hb1
    obtain ⟨k, hk, rfl, rfl, rfl, M, B⟩ := hrel
    have hT := tot_lt z k
    have htop := ful_top z k
    have hs1 : Hid (tot z (k + 1) = sat (tot z k) (z k)) := rfl
    have hf1 : Hid (ful z (k + 1) = (ful z k || decide (18446744073709551615 - tot z k < z k))) := rfl
    generalize tot z k = T at *
    by_cases hlt : k < len
    · have hcell : wr.cell? ⟨b, off + k, none⟩ = some (.int .u64 (z k : Nat)) := (B.cell (p := ⟨b, off + k, none⟩) hb).trans (hc k hlt)
      have hx := hz k hlt
      have hA := add_any T (z k) g none none 0 0 wr hT hx M
      have M2 := M.s0 (sat T (z k) : Nat)
      have B2 := B.setCell (p := ⟨g, 0, none⟩) hle (.int .u64 (sat T (z k) : Nat))
      generalize z k = x at *
      generalize hF : ful z k = F at *
      clear hF M B hc hz
      have hd : IntKind.u64.wrap (18446744073709551615 - (T : Int)) = ((18446744073709551615 - T : Nat) : Int) := by rw [IntKind.wrap_u64]; omega
      cases F with
      | true =>
        have hTT := htop rfl
        have hS : sat T x = 18446744073709551615 := by unfold sat; split <;> omega
        rw [hS] at hA M2 B2 hs1
        simp only [Bool.true_or] at hf1
        clear hS htop
        go_wp2_with fail
        refine hA.mono ?_
        rintro e w2 ⟨rfl, hw2⟩
        rw [← hw2] at M2 B2
        clear hw2 hA
        have hTt := total_any _ _ _ _ _ _ w2 M2
        have HB : Hid (_) := And.intro M2 B2
        clear M2 B2
        go_wp2_with (go_at_call 13; refine hTt.mono ?_; rintro e w' ⟨rfl, hw⟩; rw [hw]; clear hw)
        go_roundw
        case rel => exact ⟨k + 1, by omega, by go_num, by rw [hs1.out] <;> simp, by rw [hf1.out], by rw [hs1.out]; exact HB.out.1, HB.out.2⟩
        case measure => simp [intOf] <;> omega
      | false =>
        clear htop
        by_cases hcc : 18446744073709551615 - T < x
        · have hS : sat T x = 18446744073709551615 := by unfold sat; rw [if_pos hcc]
          rw [hS] at hA M2 B2 hs1
          simp only [Bool.false_or, hcc, decide_true] at hf1
          clear hS
          go_wp2_with fail
          refine hA.mono ?_
          rintro e w2 ⟨rfl, hw2⟩
          rw [← hw2] at M2 B2
          clear hw2 hA
          have hTt := total_any _ _ _ _ _ _ w2 M2
          have HB : Hid (_) := And.intro M2 B2
          clear M2 B2
          go_wp2_with (go_at_call 13; refine hTt.mono ?_; rintro e w' ⟨rfl, hw⟩; rw [hw]; clear hw)
          go_roundw
          case rel => exact ⟨k + 1, by omega, by go_num, by rw [hs1.out] <;> simp, by rw [hf1.out], by rw [hs1.out]; exact HB.out.1, HB.out.2⟩
          case measure => simp [intOf] <;> omega
        · have hS : sat T x = T + x := by unfold sat; rw [if_neg hcc]
          rw [hS] at hA M2 B2 hs1
          have hadd : IntKind.u64.wrap ((T : Int) + (x : Int)) = ((T + x : Nat) : Int) := by rw [IntKind.wrap_u64]; omega
          simp only [Bool.false_or, hcc, decide_false] at hf1
          clear hS
          generalize T + x = T2 at *
          go_wp2_with fail
          refine hA.mono ?_
          rintro e w2 ⟨rfl, hw2⟩
          rw [← hw2] at M2 B2
          clear hw2 hA
          have hTt := total_any _ _ _ _ _ _ w2 M2
          have HB : Hid (_) := And.intro M2 B2
          clear M2 B2
          go_wp2_with (go_at_call 13; refine hTt.mono ?_; rintro e w' ⟨rfl, hw⟩; rw [hw]; clear hw)
          go_roundw
          case rel => exact ⟨k + 1, by omega, by go_num, by rw [hs1.out] <;> simp, by rw [hf1.out], by rw [hs1.out]; exact HB.out.1, HB.out.2⟩
          case measure => simp [intOf] <;> omega
    · go_wp2_with fail
      go_ret
      exact ⟨rfl, B⟩
theorem natU64 {z : Int} (h : (Lit.int .u64 z).wf = true) : ∃ x : Nat, z = (x : Int) ∧ x < 18446744073709551616 := by
  have := bounds_u64 h
  exact ⟨z.toNat, by omega, by omega⟩
theorem meterSums_walk (a0 : Option Addr) (len0 cap0 : Nat) (z0 : List Int) (w : World) (w0 : BRow .u64 w a0 len0 cap0 z0) :
    Calls Try.prog 4 #[.slice a0 len0 cap0] w fun e w' => e = .returned (.bool true) ∧ Below w.heap.size w w' := by
  by_cases hp : 0 < len0
  · obtain ⟨b, off, rfl, hb, h⟩ := w0.nums hp
    refine sums_some b off len0 cap0 (fun i => (z0.getD i 0).toNat) w w0.len_le hb (fun i hi => ?_) (fun i hi => ?_)
    · obtain ⟨x, hx, hlt⟩ := natU64 (h i hi).2
      show (z0.getD i 0).toNat < _
      rw [hx]; simpa using hlt
    · obtain ⟨x, hx, hlt⟩ := natU64 (h i hi).2
      rw [(h i hi).1, hx]; simp
  · obtain rfl : len0 = 0 := by omega
    exact sums_none a0 cap0 w

end Go.Proofs.Ytejjhenkhleibaa
