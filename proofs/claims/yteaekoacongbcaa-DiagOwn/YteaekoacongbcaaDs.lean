/- Lists that are alike: Same of records, slices.Equal of codes. -/
import Derived.Test.YteaekoacongbcaaLawDSum
namespace Go.Proofs.Yteaekoacongbcaa
open Go.RowKit Go.Maps

set_option maxHeartbeats 1600000 in
set_option maxRecDepth 100000 in
theorem same_any (v1 v2 : Value) (B1 B2 : Nat) (l : List R4) (w : World) (h1 : w.ownsRow B1 32 4 v1 l.length (rvs l)) (h2 : w.ownsRow B2 32 4 v2 l.length (rvs l)) (hl : l.length ≤ 1000000) :
    Calls Try.prog 13 #[v1, v2] w fun e w' => e = .returned (.bool true) ∧ ∃ m, w' = w.drewN m := by
  obtain ⟨a1, c1, rfl, _, h1⟩ := own_cells4 h1
  obtain ⟨a2, c2, rfl, _, h2⟩ := own_cells4 h2
  obtain ⟨n, hn⟩ : ∃ n, n = l.length := ⟨_, rfl⟩
  have HN : Hid (n = l.length) := hn
  have H1 : Hid (_) := h1
  have H2 : Hid (_) := h2
  rw [← hn] at hl ⊢
  clear hn h1 h2
  have hR := rec_eq
  go_enter Try.func13, Try.ntmps13
  go_wp2_with fail
  go_loopw [5] (fun c wr => ∃ i m, i ≤ n ∧ c = .int .i64 ((i : Nat) : Int) ∧ wr = w.drewN m) (fun c _ => n - (intOf c).toNat)
  case atStart => exact ⟨0, 0, by omega, rfl, rfl⟩
  case round =>
    obtain ⟨i, m, hi, rfl, rfl⟩ := hrel
    by_cases hlt : i < n
    · have hil : i < l.length := by rw [← HN.out]; exact hlt
      obtain ⟨g1, rfl, _, _, p0, p1, p2, p3⟩ := H1.out i hil
      obtain ⟨g2, rfl, _, _, q0, q1, q2, q3⟩ := H2.out i hil
      generalize l[i] = x at *
      obtain ⟨x0, x1, x2, x3⟩ := x
      have p0 : (w.drewN m).cell? ⟨g1, i * 4, none⟩ = some (.int .i64 x0) := p0
      have p1 : (w.drewN m).cell? ⟨g1, i * 4 + 1, none⟩ = some (.int .i64 x1) := p1
      have p2 : (w.drewN m).cell? ⟨g1, i * 4 + 2, none⟩ = some (.int .u32 x2) := p2
      have p3 : (w.drewN m).cell? ⟨g1, i * 4 + 3, none⟩ = some (.int .u32 x3) := p3
      have q0 : (w.drewN m).cell? ⟨g2, i * 4, none⟩ = some (.int .i64 x0) := q0
      have q1 : (w.drewN m).cell? ⟨g2, i * 4 + 1, none⟩ = some (.int .i64 x1) := q1
      have q2 : (w.drewN m).cell? ⟨g2, i * 4 + 2, none⟩ = some (.int .u32 x2) := q2
      have q3 : (w.drewN m).cell? ⟨g2, i * 4 + 3, none⟩ = some (.int .u32 x3) := q3
      clear hil
      generalize hwm : w.drewN m = wm at *
      have HW : Hid (w.drewN m = wm) := hwm
      clear hwm
      go_wp2_with fail
      go_quiet (fail)
      go_wp2_with fail
      go_roundw
      case rel => exact ⟨i + 1, m + nq, by omega, by go_num, by rw [← HW.out, World.drewN_drewN]⟩
      case measure => simp [intOf] <;> omega
    · go_wp2_with fail
      go_ret
      exact ⟨rfl, m, rfl⟩
set_option maxHeartbeats 1600000 in
set_option maxRecDepth 100000 in
theorem equal_any (v1 v2 : Value) (B1 B2 : Nat) (l : List Int) (w : World) (h1 : w.ownsRow B1 29 1 v1 l.length (l.map encZ)) (h2 : w.ownsRow B2 29 1 v2 l.length (l.map encZ)) (hl : l.length ≤ 1000000) :
    Calls Try.prog 16 #[v1, v2] w fun e w' => e = .returned (.bool true) ∧ ∃ m, w' = w.drewN m := by
  obtain ⟨a1, c1, rfl, _, h1⟩ := own_cells1 h1
  obtain ⟨a2, c2, rfl, _, h2⟩ := own_cells1 h2
  obtain ⟨n, hn⟩ : ∃ n, n = l.length := ⟨_, rfl⟩
  have HN : Hid (n = l.length) := hn
  have H1 : Hid (_) := h1
  have H2 : Hid (_) := h2
  rw [← hn] at hl ⊢
  clear hn h1 h2
  go_enter Try.func16, Try.ntmps16
  go_wp2_with fail
  go_loopw [4, 5, 13] (fun _ _ c wr => ∃ i m, i ≤ n ∧ c = .int .i64 ((i : Nat) : Int) ∧ wr = w.drewN m) (fun _ _ c _ => n - (intOf c).toNat)
  case atStart => exact ⟨0, 0, by omega, rfl, rfl⟩
  case round =>
    obtain ⟨i, m, hi, rfl, rfl⟩ := hrel
    by_cases hlt : i < n
    · have hil : i < l.length := by rw [← HN.out]; exact hlt
      obtain ⟨g1, rfl, _, p0⟩ := H1.out i hil
      obtain ⟨g2, rfl, _, q0⟩ := H2.out i hil
      generalize l[i] = x at *
      have p0 : (w.drewN m).cell? ⟨g1, i, none⟩ = some (.int .i64 x) := p0
      have q0 : (w.drewN m).cell? ⟨g2, i, none⟩ = some (.int .i64 x) := q0
      clear hil
      generalize hwm : w.drewN m = wm at *
      have HW : Hid (w.drewN m = wm) := hwm
      clear hwm
      go_wp2_with fail
      go_quiet (fail)
      go_wp2_with fail
      go_roundw
      case rel => exact ⟨i + 1, m + nq, by omega, by go_num, by rw [← HW.out, World.drewN_drewN]⟩
      case measure => simp [intOf] <;> omega
    · go_wp2_with fail
      go_ret
      exact ⟨rfl, m, rfl⟩
end Go.Proofs.Yteaekoacongbcaa
