/- Parameter sets: Check and the document's Lawful alone (out of Par.lean, Par5.lean). -/
import Derived.Test.YtiikebaehoobnaaDoorRowo
import Derived.Deep.RegionHeld3
namespace Go.Proofs.YtiikebaehoobnaaDoor
set_option maxRecDepth 100000
open Go.RowKit

/-- A lawful set. -/
def okP (c o i t n : Int) : Prop := c ≠ 0 ∧ (1 ≤ o ∧ o ≤ 8) ∧ (1 ≤ i ∧ i ≤ 8) ∧ (1 ≤ t ∧ t ≤ 1048576) ∧ 2 ≤ n
instance okP_dec (c o i t n : Int) : Decidable (okP c o i t n) := by unfold okP; infer_instance
set_option maxRecDepth 100000 in
set_option maxHeartbeats 1000000 in
theorem within_any (x m : Int) (w : World) (b : Bool) (hb : decide (1 ≤ x ∧ x ≤ m) = b) :
    Calls Tryd.prog 78 #[.int .i64 x, .int .i64 m] w fun e w' => e = .returned (.bool b) ∧ w' = w := by
  by_cases h1 : 1 ≤ x
  · have q1 : decide (1 ≤ x) = true := decide_eq_true h1
    have hb2 : decide (x ≤ m) = b := by rw [← hb]; simp [h1]
    clear hb h1
    go_enter Tryd.func78, Tryd.ntmps78
    go_wp2_with fail
    go_ret
    exact ⟨by simp, rfl⟩
  · have q1 : decide (1 ≤ x) = false := decide_eq_false h1
    have hb2 : b = false := by rw [← hb]; simp [h1]
    subst hb2
    clear hb h1
    go_enter Tryd.func78, Tryd.ntmps78
    go_wp2_with fail
    go_ret
    exact ⟨rfl, rfl⟩
set_option maxRecDepth 100000 in
set_option maxHeartbeats 2000000 in
theorem check_any (c : Nat) (o i t : Int) (n : Nat) (w : World) (E : Int) (hE : (if okP c o i t n then 0 else 90) = E) :
    Calls Tryd.prog 67 #[.agg #[.int .u32 c, .int .i64 o, .int .i64 i, .int .i64 t, .int .u32 n]] w fun e w' => e = .returned (.int .i64 E) ∧ Below w.heap.size w w' := by
  have hb : Below w.heap.size w (w.alloc (.cells #[.int .u32 c, .int .i64 o, .int .i64 i, .int .i64 t, .int .u32 n] 63)) := (Below.refl _ _).alloc (Nat.le_refl _) _
  have wi1 := fun b h wx => within_any o 8 wx b h
  have wi2 := fun b h wx => within_any i 8 wx b h
  have wi3 := fun b h wx => within_any t 1048576 wx b h
  have HB : Hid (_) := hb
  have HE : Hid (_) := hE
  clear hE hb
  by_cases h1 : (c : Int) = 0
  · have q1 : ((c : Int) == 0) = true := by simpa using h1
    have hE' : E = 90 := by rw [← HE.out, if_neg (fun h => h.1 h1)]
    subst hE'
    clear wi1 wi2 wi3 HE h1
    go_enter Tryd.func67, Tryd.ntmps67
    go_wp2_with fail
    go_ret
    exact ⟨rfl, HB.out⟩
  · have q1 : ((c : Int) == 0) = false := by simpa using h1
    by_cases h2 : 1 ≤ o ∧ o ≤ 8
    · replace wi1 := wi1 true (decide_eq_true h2)
      by_cases h3 : 1 ≤ i ∧ i ≤ 8
      · replace wi2 := wi2 true (decide_eq_true h3)
        by_cases h4 : 1 ≤ t ∧ t ≤ 1048576
        · replace wi3 := wi3 true (decide_eq_true h4)
          by_cases h5 : (n : Int) < 2
          · have q5 : decide ((n : Int) < 2) = true := decide_eq_true h5
            have hE' : E = 90 := by rw [← HE.out, if_neg (fun h => absurd h.2.2.2.2 (by omega))]
            subst hE'
            clear HE h1 h2 h3 h4 h5
            go_enter Tryd.func67, Tryd.ntmps67
            go_wp2_with fail
            refine (wi1 _).mono ?_
            rintro e w1 ⟨rfl, rfl⟩
            go_wp2_with fail
            refine (wi2 _).mono ?_
            rintro e w1 ⟨rfl, rfl⟩
            go_wp2_with fail
            refine (wi3 _).mono ?_
            rintro e w1 ⟨rfl, rfl⟩
            go_wp2_with fail
            go_ret
            exact ⟨rfl, HB.out⟩
          · have q5 : decide ((n : Int) < 2) = false := decide_eq_false h5
            have hE' : E = 0 := by rw [← HE.out, if_pos ⟨h1, h2, h3, h4, by omega⟩]
            subst hE'
            clear HE h1 h2 h3 h4 h5
            go_enter Tryd.func67, Tryd.ntmps67
            go_wp2_with fail
            refine (wi1 _).mono ?_
            rintro e w1 ⟨rfl, rfl⟩
            go_wp2_with fail
            refine (wi2 _).mono ?_
            rintro e w1 ⟨rfl, rfl⟩
            go_wp2_with fail
            refine (wi3 _).mono ?_
            rintro e w1 ⟨rfl, rfl⟩
            go_wp2_with fail
            go_ret
            exact ⟨rfl, HB.out⟩
        · replace wi3 := wi3 false (decide_eq_false h4)
          have hE' : E = 90 := by rw [← HE.out, if_neg (fun h => h4 h.2.2.2.1)]
          subst hE'
          clear HE h1 h2 h3 h4
          go_enter Tryd.func67, Tryd.ntmps67
          go_wp2_with fail
          refine (wi1 _).mono ?_
          rintro e w1 ⟨rfl, rfl⟩
          go_wp2_with fail
          refine (wi2 _).mono ?_
          rintro e w1 ⟨rfl, rfl⟩
          go_wp2_with fail
          refine (wi3 _).mono ?_
          rintro e w1 ⟨rfl, rfl⟩
          go_wp2_with fail
          go_ret
          exact ⟨rfl, HB.out⟩
      · replace wi2 := wi2 false (decide_eq_false h3)
        have hE' : E = 90 := by rw [← HE.out, if_neg (fun h => h3 h.2.2.1)]
        subst hE'
        clear HE h1 h2 h3 wi3
        go_enter Tryd.func67, Tryd.ntmps67
        go_wp2_with fail
        refine (wi1 _).mono ?_
        rintro e w1 ⟨rfl, rfl⟩
        go_wp2_with fail
        refine (wi2 _).mono ?_
        rintro e w1 ⟨rfl, rfl⟩
        go_wp2_with fail
        go_ret
        exact ⟨rfl, HB.out⟩
    · replace wi1 := wi1 false (decide_eq_false h2)
      have hE' : E = 90 := by rw [← HE.out, if_neg (fun h => h2 h.2.1)]
      subst hE'
      clear HE h1 h2 wi2 wi3
      go_enter Tryd.func67, Tryd.ntmps67
      go_wp2_with fail
      refine (wi1 _).mono ?_
      rintro e w1 ⟨rfl, rfl⟩
      go_wp2_with fail
      go_ret
      exact ⟨rfl, HB.out⟩
set_option maxRecDepth 100000 in
set_option maxHeartbeats 4000000 in
theorem rlaw_any (c : Nat) (o i t : Int) (n : Nat) (w : World) (D : Bool) (hD : decide (okP c o i t n) = D) :
    Calls Tryd.prog 27 #[.agg #[.int .u32 c, .int .i64 o, .int .i64 i, .int .i64 t, .int .u32 n]] w fun e w' => e = .returned (.bool D) ∧ Below w.heap.size w w' := by
  have hb : Below w.heap.size w (w.alloc (.cells #[.int .u32 c, .int .i64 o, .int .i64 i, .int .i64 t, .int .u32 n] 63)) := (Below.refl _ _).alloc (Nat.le_refl _) _
  have HB : Hid (_) := hb
  have HD : Hid (_) := hD
  clear hD hb
  by_cases h0 : (0 : Int) < (c : Int)
  rotate_left
  · have q0 : decide ((0 : Int) < (c : Int)) = false := decide_eq_false h0
    have r0 : c = 0 := by omega
    subst r0
    have hD' : D = false := by rw [← HD.out]; exact decide_eq_false (fun h => by unfold okP at h; omega)
    subst hD'
    clear HD h0
    go_enter Tryd.func27, Tryd.ntmps27
    go_wp2_with fail
    go_ret
    exact ⟨rfl, HB.out⟩
  have q0 : decide ((0 : Int) < (c : Int)) = true := decide_eq_true h0
  have r0 : 0 < c := by omega
  by_cases h1 : 1 ≤ o
  rotate_left
  · have q1 : decide (1 ≤ o) = false := decide_eq_false h1
    have hD' : D = false := by rw [← HD.out]; exact decide_eq_false (fun h => by unfold okP at h; omega)
    subst hD'
    clear HD h0 h1
    go_enter Tryd.func27, Tryd.ntmps27
    go_wp2_with fail
    go_ret
    exact ⟨rfl, HB.out⟩
  have q1 : decide (1 ≤ o) = true := decide_eq_true h1
  by_cases h2 : o ≤ 8
  rotate_left
  · have q2 : decide (o ≤ 8) = false := decide_eq_false h2
    have hD' : D = false := by rw [← HD.out]; exact decide_eq_false (fun h => by unfold okP at h; omega)
    subst hD'
    clear HD h0 h1 h2
    go_enter Tryd.func27, Tryd.ntmps27
    go_wp2_with fail
    go_ret
    exact ⟨rfl, HB.out⟩
  have q2 : decide (o ≤ 8) = true := decide_eq_true h2
  by_cases h3 : 1 ≤ i
  rotate_left
  · have q3 : decide (1 ≤ i) = false := decide_eq_false h3
    have hD' : D = false := by rw [← HD.out]; exact decide_eq_false (fun h => by unfold okP at h; omega)
    subst hD'
    clear HD h0 h1 h2 h3
    go_enter Tryd.func27, Tryd.ntmps27
    go_wp2_with fail
    go_ret
    exact ⟨rfl, HB.out⟩
  have q3 : decide (1 ≤ i) = true := decide_eq_true h3
  by_cases h4 : i ≤ 8
  rotate_left
  · have q4 : decide (i ≤ 8) = false := decide_eq_false h4
    have hD' : D = false := by rw [← HD.out]; exact decide_eq_false (fun h => by unfold okP at h; omega)
    subst hD'
    clear HD h0 h1 h2 h3 h4
    go_enter Tryd.func27, Tryd.ntmps27
    go_wp2_with fail
    go_ret
    exact ⟨rfl, HB.out⟩
  have q4 : decide (i ≤ 8) = true := decide_eq_true h4
  by_cases h5 : 1 ≤ t
  rotate_left
  · have q5 : decide (1 ≤ t) = false := decide_eq_false h5
    have hD' : D = false := by rw [← HD.out]; exact decide_eq_false (fun h => by unfold okP at h; omega)
    subst hD'
    clear HD h0 h1 h2 h3 h4 h5
    go_enter Tryd.func27, Tryd.ntmps27
    go_wp2_with fail
    go_ret
    exact ⟨rfl, HB.out⟩
  have q5 : decide (1 ≤ t) = true := decide_eq_true h5
  by_cases h6 : t ≤ 1048576
  rotate_left
  · have q6 : decide (t ≤ 1048576) = false := decide_eq_false h6
    have hD' : D = false := by rw [← HD.out]; exact decide_eq_false (fun h => by unfold okP at h; omega)
    subst hD'
    clear HD h0 h1 h2 h3 h4 h5 h6
    go_enter Tryd.func27, Tryd.ntmps27
    go_wp2_with fail
    go_ret
    exact ⟨rfl, HB.out⟩
  have q6 : decide (t ≤ 1048576) = true := decide_eq_true h6
  by_cases h7 : (2 : Int) ≤ (n : Int)
  rotate_left
  · have q7 : decide ((2 : Int) ≤ (n : Int)) = false := decide_eq_false h7
    have hD' : D = false := by rw [← HD.out]; exact decide_eq_false (fun h => by unfold okP at h; omega)
    subst hD'
    clear HD h0 h1 h2 h3 h4 h5 h6 h7
    go_enter Tryd.func27, Tryd.ntmps27
    go_wp2_with fail
    go_ret
    exact ⟨rfl, HB.out⟩
  have q7 : decide ((2 : Int) ≤ (n : Int)) = true := decide_eq_true h7
  have hD' : D = true := by rw [← HD.out]; exact decide_eq_true (by unfold okP; omega)
  subst hD'
  clear HD h0 h1 h2 h3 h4 h5 h6 h7
  go_enter Tryd.func27, Tryd.ntmps27
  go_wp2_with fail
  go_ret
  exact ⟨rfl, HB.out⟩
end Go.Proofs.YtiikebaehoobnaaDoor
