/- The document's Lawful, Word and Decode (by genpar3.py). -/
import Derived.Test.YtmleiemlfogffaaGreatPar3
namespace Go.Proofs.YtmleiemlfogffaaGreat
set_option maxRecDepth 100000
open Go.RowKit
set_option maxRecDepth 100000 in
set_option maxHeartbeats 4000000 in
theorem rlaw_any (c : Nat) (o i t : Int) (n : Nat) (w : World) (D : Bool) (hD : decide (okP c o i t n) = D) :
    Calls Tryz.prog 30 #[.agg #[.int .u32 c, .int .i64 o, .int .i64 i, .int .i64 t, .int .u32 n]] w fun e w' => e = .returned (.bool D) ∧ Below w.heap.size w w' := by
  have hb : Below w.heap.size w (w.alloc (.cells #[.int .u32 c, .int .i64 o, .int .i64 i, .int .i64 t, .int .u32 n] 24)) := (Below.refl _ _).alloc (Nat.le_refl _) _
  have HB : Hid (_) := hb
  have HD : Hid (_) := hD
  clear hD hb
  by_cases h0 : (0 : Int) < (c : Int)
  rotate_left
  · have q0 : decide ((0 : Int) < (c : Int)) = false := decide_eq_false h0
    have r0 : c = 0 := by omega
    subst r0
    have hD' : D = false := by rw [← HD.out]; exact decide_eq_false (fun h => by unfold okP at h; omega)
    subst hD'
    clear HD h0
    go_enter Tryz.func30, Tryz.ntmps30
    go_wp2_with fail
    go_ret
    exact ⟨rfl, HB.out⟩
  have q0 : decide ((0 : Int) < (c : Int)) = true := decide_eq_true h0
  have r0 : 0 < c := by omega
  by_cases h1 : 1 ≤ o
  rotate_left
  · have q1 : decide (1 ≤ o) = false := decide_eq_false h1
    have hD' : D = false := by rw [← HD.out]; exact decide_eq_false (fun h => by unfold okP at h; omega)
    subst hD'
    clear HD h0 h1
    go_enter Tryz.func30, Tryz.ntmps30
    go_wp2_with fail
    go_ret
    exact ⟨rfl, HB.out⟩
  have q1 : decide (1 ≤ o) = true := decide_eq_true h1
  by_cases h2 : o ≤ 8
  rotate_left
  · have q2 : decide (o ≤ 8) = false := decide_eq_false h2
    have hD' : D = false := by rw [← HD.out]; exact decide_eq_false (fun h => by unfold okP at h; omega)
    subst hD'
    clear HD h0 h1 h2
    go_enter Tryz.func30, Tryz.ntmps30
    go_wp2_with fail
    go_ret
    exact ⟨rfl, HB.out⟩
  have q2 : decide (o ≤ 8) = true := decide_eq_true h2
  by_cases h3 : 1 ≤ i
  rotate_left
  · have q3 : decide (1 ≤ i) = false := decide_eq_false h3
    have hD' : D = false := by rw [← HD.out]; exact decide_eq_false (fun h => by unfold okP at h; omega)
    subst hD'
    clear HD h0 h1 h2 h3
    go_enter Tryz.func30, Tryz.ntmps30
    go_wp2_with fail
    go_ret
    exact ⟨rfl, HB.out⟩
  have q3 : decide (1 ≤ i) = true := decide_eq_true h3
  by_cases h4 : i ≤ 8
  rotate_left
  · have q4 : decide (i ≤ 8) = false := decide_eq_false h4
    have hD' : D = false := by rw [← HD.out]; exact decide_eq_false (fun h => by unfold okP at h; omega)
    subst hD'
    clear HD h0 h1 h2 h3 h4
    go_enter Tryz.func30, Tryz.ntmps30
    go_wp2_with fail
    go_ret
    exact ⟨rfl, HB.out⟩
  have q4 : decide (i ≤ 8) = true := decide_eq_true h4
  by_cases h5 : 1 ≤ t
  rotate_left
  · have q5 : decide (1 ≤ t) = false := decide_eq_false h5
    have hD' : D = false := by rw [← HD.out]; exact decide_eq_false (fun h => by unfold okP at h; omega)
    subst hD'
    clear HD h0 h1 h2 h3 h4 h5
    go_enter Tryz.func30, Tryz.ntmps30
    go_wp2_with fail
    go_ret
    exact ⟨rfl, HB.out⟩
  have q5 : decide (1 ≤ t) = true := decide_eq_true h5
  by_cases h6 : t ≤ 1048576
  rotate_left
  · have q6 : decide (t ≤ 1048576) = false := decide_eq_false h6
    have hD' : D = false := by rw [← HD.out]; exact decide_eq_false (fun h => by unfold okP at h; omega)
    subst hD'
    clear HD h0 h1 h2 h3 h4 h5 h6
    go_enter Tryz.func30, Tryz.ntmps30
    go_wp2_with fail
    go_ret
    exact ⟨rfl, HB.out⟩
  have q6 : decide (t ≤ 1048576) = true := decide_eq_true h6
  by_cases h7 : (2 : Int) ≤ (n : Int)
  rotate_left
  · have q7 : decide ((2 : Int) ≤ (n : Int)) = false := decide_eq_false h7
    have hD' : D = false := by rw [← HD.out]; exact decide_eq_false (fun h => by unfold okP at h; omega)
    subst hD'
    clear HD h0 h1 h2 h3 h4 h5 h6 h7
    go_enter Tryz.func30, Tryz.ntmps30
    go_wp2_with fail
    go_ret
    exact ⟨rfl, HB.out⟩
  have q7 : decide ((2 : Int) ≤ (n : Int)) = true := decide_eq_true h7
  have hD' : D = true := by rw [← HD.out]; exact decide_eq_true (by unfold okP; omega)
  subst hD'
  clear HD h0 h1 h2 h3 h4 h5 h6 h7
  go_enter Tryz.func30, Tryz.ntmps30
  go_wp2_with fail
  go_ret
  exact ⟨rfl, HB.out⟩
set_option maxHeartbeats 1000000 in
theorem rword_any (b off len cap x0 x1 x2 x3 : Nat) (w : World) (hlen : (3 : Int) < (len : Int)) (h0 : x0 < 256) (h1 : x1 < 256) (h2 : x2 < 256) (h3 : x3 < 256)
    (c0 : w.cell? ⟨b, off, none⟩ = some (.int .u8 x0)) (c1 : w.cell? ⟨b, off + 1, none⟩ = some (.int .u8 x1)) (c2 : w.cell? ⟨b, off + 2, none⟩ = some (.int .u8 x2)) (c3 : w.cell? ⟨b, off + 3, none⟩ = some (.int .u8 x3)) :
    Calls Tryz.prog 56 #[.slice (some ⟨b, off, none⟩) len cap] w fun e w' => e = .returned (.int .u32 ((x0 * 16777216 + x1 * 65536 + x2 * 256 + x3 : Nat) : Int)) ∧ ∃ m, w' = w.drewN m := by
  have hn := wnumP x0 x1 x2 x3 h0 h1 h2 h3
  have l0 : (0 : Int) < (len : Int) := by omega
  have l1 : (1 : Int) < (len : Int) := by omega
  have l2 : (2 : Int) < (len : Int) := by omega
  generalize x0 * 16777216 + x1 * 65536 + x2 * 256 + x3 = y at *
  go_enter Tryz.func56, Tryz.ntmps56
  go_wp2_with fail
  go_quiet (fail)
  go_wp2
  go_ret
  exact ⟨rfl, _, rfl⟩
theorem rword_row (b off len cap i L C : Nat) (bs : Nat → Nat) (w : World) (hr : Row8 w (some ⟨b, off, none⟩) len cap bs) (h : i + 4 ≤ len) (hL : 4 ≤ L) :
    Calls Tryz.prog 56 #[.slice (some ⟨b, off + i, none⟩) L C] w fun e w' => e = .returned (.int .u32 (w4v bs i : Nat)) ∧ ∃ m, w' = w.drewN m := by
  have s := hr.src _ rfl
  have q := hr.byte
  have t0 := s i (by omega); have t1 := s (i + 1) (by omega); have t2 := s (i + 2) (by omega); have t3 := s (i + 3) (by omega)
  rw [Go.WideShapes.add_plain] at t0 t1 t2 t3
  exact rword_any b (off + i) L C _ _ _ _ w (by omega) (q i (by omega)) (q (i + 1) (by omega)) (q (i + 2) (by omega)) (q (i + 3) (by omega)) t0 t1 t2 t3

end Go.Proofs.YtmleiemlfogffaaGreat
