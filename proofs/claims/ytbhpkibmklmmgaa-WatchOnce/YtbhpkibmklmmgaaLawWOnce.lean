/- Layer 10: told once, at the tick that makes the limit. -/
import Derived.Test.YtbhpkibmklmmgaaWatch2
import Derived.Test.YtbhpkibmklmmgaaRown
namespace Go.Proofs.Ytbhpkibmklmmgaa
open Go.RowKit

/-- What is kept between two bundles: the sum, the count, and how often it was told. -/
def Onc (l S c T : Nat) : Prop := S < l + 5000 ∧ ((S < l ∧ c = S ∧ T = 0) ∨ (l ≤ S ∧ c = l ∧ T = 1))
set_option maxRecDepth 100000 in
set_option maxHeartbeats 4000000 in
theorem once_in (l : Nat) (a : Option Addr) (len cap : Nat) (z : Nat → Int) (w : World) (h1 : 1 ≤ l) (h2 : l ≤ 1048576) (hlen : len ≤ 9223372036854775807)
    (hc : 0 < len → ∃ b off, a = some ⟨b, off, none⟩ ∧ b < w.heap.size ∧ ∀ i, i < len → w.cell? ⟨b, off + i, none⟩ = some (.int .i64 (z i))) :
    Calls Try.prog 4 #[.int .i64 l, .slice a len cap] w fun e w' => e = .returned (.bool true) ∧ Below w.heap.size w w' := by
  have HC : Hid (_) := hc
  clear hc
  go_enter Try.func4, Try.ntmps4
  go_wp2_with fail
  refine (awake10 w).mono ?_
  rintro e w1 ⟨rfl, o1⟩
  go_wp2_with fail
  refine (wnew_ok l w1 h1 h2).mono ?_
  rintro e w2 ⟨rfl, o2, d2⟩
  have ha := o1.size
  have b2 : Below w.heap.size w w2 := (o1.trans o2).nilB
  clear o1 o2
  generalize w1.heap.size = D at *
  have H0 : Hid (_) := And.intro d2 b2
  clear d2 b2
  go_wp2_with fail
  go_loopw [4, 7, 8, 9, 10, 11, 12] (fun _ s t i _ _ _ wr => ∃ (k S c T : Nat), k ≤ len ∧ i = .int .i64 ((k : Nat) : Int) ∧ s = .int .i64 ((S : Nat) : Int) ∧ t = .int .i64 ((T : Nat) : Int) ∧ Onc l S c T ∧ DR wr D l c ∧ Below w.heap.size w wr) (fun _ _ _ i _ _ _ _ => len - (intOf i).toNat)
  case atStart => exact ⟨0, 0, 0, 0, by omega, rfl, rfl, rfl, ⟨by omega, .inl ⟨by omega, rfl, rfl⟩⟩, H0.out.1, H0.out.2⟩
  case round =>
    clear H0
    obtain ⟨k, S, c, T, hk, rfl, rfl, rfl, hO, d, b⟩ := hrel
    obtain ⟨hS, hO⟩ := hO
    by_cases hlt : k < len
    · obtain ⟨bb, off, rfl, hbb, hcc⟩ := HC.out (by omega)
      have hcell : wr.cell? ⟨bb, off + k, none⟩ = some (.int .i64 (z k)) := (b.cell (p := ⟨bb, off + k, none⟩) hbb).trans (hcc k hlt)
      clear HC hcc
      generalize z k = x at *
      obtain ⟨R, hR⟩ : ∃ R, Int.tmod x 5000 = R := ⟨_, rfl⟩
      have hR1 : R < 5000 := by rw [← hR]; exact Int.tmod_lt_of_pos _ (by decide)
      have hR2 : -5000 < R := by rw [← hR]; exact Int.lt_tmod_of_pos _ (by decide)
      have Hb : Hid (_) := b
      clear b
      by_cases hneg : R < 0
      · obtain ⟨N, hN⟩ : ∃ N : Nat, -R = (N : Int) := ⟨(-R).toNat, by omega⟩
        have hw1 : IntKind.i64.wrap (-R) = (N : Int) := by rw [hN, IntKind.wrap_i64]; omega
        have hN5 : N < 5000 := by omega
        clear hN hR1 hR2
        have hw2 : (S : Int) + (N : Int) < 9223372036854775808 := by omega
        have hw3 : T ≤ 1 := by omega
        by_cases hSl : S < l
        · by_cases hg : (l : Int) ≤ (S : Int) + (N : Int)
          · have ht : told l c N = true := by unfold told; simp; omega
            have hk2 : tk l c N = l := by unfold tk; omega
            have hq := wticks_any l c N D wr d (by omega)
            rw [ht, hk2] at hq
            clear ht hk2 d
            have HO : Hid (_) := hO
            clear hO
            go_wp2_with fail
            refine hq.mono ?_
            rintro e w3 ⟨rfl, o3, d3⟩
            have b3 := o3.below Hb.out (by simpa using ha) Hb.out.size
            have H3 : Hid (_) := And.intro d3 b3
            clear hq o3 d3 b3
            go_wp2_with fail
            go_roundw
            case rel => exact ⟨k + 1, S + N, l, T + 1, by omega, by go_num, by first | rfl | go_num, by first | rfl | go_num, ⟨by omega, by have := HO.out; omega⟩, H3.out.1, H3.out.2⟩
            case measure => simp [intOf] <;> omega
          · obtain ⟨S', hS'⟩ : ∃ S', S' = S + N := ⟨_, rfl⟩
            have hw4 : IntKind.i64.wrap ((S : Int) + (N : Int)) = (S' : Int) := by rw [hS', IntKind.wrap_i64]; omega
            have hg' : ¬ l ≤ S' := by omega
            clear hg hw2
            have ht : told l c N = false := by unfold told; simp; omega
            have hk2 : tk l c N = S + N := by unfold tk; omega
            have hq := wticks_any l c N D wr d (by omega)
            rw [ht, hk2] at hq
            clear ht hk2 d
            have HO : Hid (_) := hO
            clear hO
            go_wp2_with fail
            refine hq.mono ?_
            rintro e w3 ⟨rfl, o3, d3⟩
            have b3 := o3.below Hb.out (by simpa using ha) Hb.out.size
            have H3 : Hid (_) := And.intro d3 b3
            clear hq o3 d3 b3
            go_wp2_with fail
            go_roundw
            case rel => exact ⟨k + 1, S + N, S + N, T, by omega, by go_num, by first | rfl | go_num, by first | rfl | go_num, ⟨by omega, by have := HO.out; omega⟩, H3.out.1, H3.out.2⟩
            case measure => simp [intOf] <;> omega
        · have ht : told l c N = false := by unfold told; simp; omega
          have hk2 : tk l c N = c := by unfold tk; omega
          have hq := wticks_any l c N D wr d (by omega)
          rw [ht, hk2] at hq
          clear ht hk2 d
          have HO : Hid (_) := hO
          clear hO
          go_wp2_with fail
          refine hq.mono ?_
          rintro e w3 ⟨rfl, o3, d3⟩
          have b3 := o3.below Hb.out (by simpa using ha) Hb.out.size
          have H3 : Hid (_) := And.intro d3 b3
          clear hq o3 d3 b3
          go_wp2_with fail
          go_roundw
          case rel => exact ⟨k + 1, S, c, T, by omega, by go_num, by first | rfl | go_num, by first | rfl | go_num, ⟨by omega, by have := HO.out; omega⟩, H3.out.1, H3.out.2⟩
          case measure => simp [intOf] <;> omega
      · obtain ⟨N, rfl⟩ : ∃ N : Nat, R = (N : Int) := ⟨R.toNat, by omega⟩
        have hN5 : N < 5000 := by omega
        clear hR1 hR2
        have hw2 : (S : Int) + (N : Int) < 9223372036854775808 := by omega
        have hw3 : T ≤ 1 := by omega
        by_cases hSl : S < l
        · by_cases hg : (l : Int) ≤ (S : Int) + (N : Int)
          · have ht : told l c N = true := by unfold told; simp; omega
            have hk2 : tk l c N = l := by unfold tk; omega
            have hq := wticks_any l c N D wr d (by omega)
            rw [ht, hk2] at hq
            clear ht hk2 d
            have HO : Hid (_) := hO
            clear hO
            go_wp2_with fail
            refine hq.mono ?_
            rintro e w3 ⟨rfl, o3, d3⟩
            have b3 := o3.below Hb.out (by simpa using ha) Hb.out.size
            have H3 : Hid (_) := And.intro d3 b3
            clear hq o3 d3 b3
            go_wp2_with fail
            go_roundw
            case rel => exact ⟨k + 1, S + N, l, T + 1, by omega, by go_num, by first | rfl | go_num, by first | rfl | go_num, ⟨by omega, by have := HO.out; omega⟩, H3.out.1, H3.out.2⟩
            case measure => simp [intOf] <;> omega
          · obtain ⟨S', hS'⟩ : ∃ S', S' = S + N := ⟨_, rfl⟩
            have hw4 : IntKind.i64.wrap ((S : Int) + (N : Int)) = (S' : Int) := by rw [hS', IntKind.wrap_i64]; omega
            have hg' : ¬ l ≤ S' := by omega
            clear hg hw2
            have ht : told l c N = false := by unfold told; simp; omega
            have hk2 : tk l c N = S + N := by unfold tk; omega
            have hq := wticks_any l c N D wr d (by omega)
            rw [ht, hk2] at hq
            clear ht hk2 d
            have HO : Hid (_) := hO
            clear hO
            go_wp2_with fail
            refine hq.mono ?_
            rintro e w3 ⟨rfl, o3, d3⟩
            have b3 := o3.below Hb.out (by simpa using ha) Hb.out.size
            have H3 : Hid (_) := And.intro d3 b3
            clear hq o3 d3 b3
            go_wp2_with fail
            go_roundw
            case rel => exact ⟨k + 1, S + N, S + N, T, by omega, by go_num, by first | rfl | go_num, by first | rfl | go_num, ⟨by omega, by have := HO.out; omega⟩, H3.out.1, H3.out.2⟩
            case measure => simp [intOf] <;> omega
        · have ht : told l c N = false := by unfold told; simp; omega
          have hk2 : tk l c N = c := by unfold tk; omega
          have hq := wticks_any l c N D wr d (by omega)
          rw [ht, hk2] at hq
          clear ht hk2 d
          have HO : Hid (_) := hO
          clear hO
          go_wp2_with fail
          refine hq.mono ?_
          rintro e w3 ⟨rfl, o3, d3⟩
          have b3 := o3.below Hb.out (by simpa using ha) Hb.out.size
          have H3 : Hid (_) := And.intro d3 b3
          clear hq o3 d3 b3
          go_wp2_with fail
          go_roundw
          case rel => exact ⟨k + 1, S, c, T, by omega, by go_num, by first | rfl | go_num, by first | rfl | go_num, ⟨by omega, by have := HO.out; omega⟩, H3.out.1, H3.out.2⟩
          case measure => simp [intOf] <;> omega
    · clear HC
      have Hb : Hid (_) := b
      clear b
      by_cases hSl : l ≤ S
      · have hT : (T : Int) = 1 := by omega
        have hx := wexpired_any l c D wr d
        rw [show decide (l ≤ c) = true from by simp; omega] at hx
        clear hO hS d
        go_wp2_with fail
        refine hx.mono ?_
        rintro e w3 ⟨rfl, j, hw⟩
        have H3 : Hid (_) := (hw ▸ Off.drewN [] wr j : Off [] wr w3).below Hb.out (by simp) Hb.out.size
        clear hw hx
        go_wp2_with fail
        go_ret
        exact ⟨rfl, H3.out⟩
      · have hT : (T : Int) = 0 := by omega
        have hx := wexpired_any l c D wr d
        rw [show decide (l ≤ c) = false from by simp; omega] at hx
        clear hO hS d
        go_wp2_with fail
        refine hx.mono ?_
        rintro e w3 ⟨rfl, j, hw⟩
        have H3 : Hid (_) := (hw ▸ Off.drewN [] wr j : Off [] wr w3).below Hb.out (by simp) Hb.out.size
        clear hw hx
        go_wp2_with fail
        go_ret
        exact ⟨rfl, H3.out⟩
set_option maxRecDepth 100000 in
set_option maxHeartbeats 4000000 in
theorem once_out (a0 : Int) (a : Option Addr) (len cap : Nat) (w : World) (h : a0 < 1 ∨ 1048576 < a0) :
    Calls Try.prog 4 #[.int .i64 a0, .slice a len cap] w fun e w' => e = .returned (.bool true) ∧ Below w.heap.size w w' := by
  have hh : Hid (a0 < 1 ∨ 1048576 < a0) := h
  clear h
  go_enter Try.func4, Try.ntmps4
  go_wp2_with fail
  refine (awake10 w).mono ?_
  rintro e w1 ⟨rfl, o1⟩
  have b1 : Hid (_) := o1.nilB
  clear o1
  by_cases c1 : a0 < 1
  · go_wp2_with fail
    go_ret
    exact ⟨rfl, b1.out⟩
  · have c2 : 1048576 < a0 := by have := hh.out; omega
    go_wp2_with fail
    go_ret
    exact ⟨rfl, b1.out⟩
theorem watchOnce_walk (a0 : Int) (a1 : Option Addr) (len1 cap1 : Nat) (z1 : List Int) (w : World) (_w0 : (Lit.int .i64 a0).wf = true) (w1 : BRow .i64 w a1 len1 cap1 z1) :
    Calls Try.prog 4 #[.int .i64 a0, .slice a1 len1 cap1] w fun e w' => e = .returned (.bool true) ∧ Below w.heap.size w w' := by
  by_cases h : a0 < 1 ∨ 1048576 < a0
  · exact once_out a0 a1 len1 cap1 w h
  · have e0 : a0 = ((a0.toNat : Nat) : Int) := by omega
    rw [e0]
    refine once_in _ a1 len1 cap1 (fun i => z1.getD i 0) w (by omega) (by omega) w1.len_le (fun hp => ?_)
    obtain ⟨b, off, rfl, hb, hn⟩ := w1.nums hp
    exact ⟨b, off, rfl, hb, fun i hi => (hn i hi).1⟩

end Go.Proofs.Ytbhpkibmklmmgaa
