/- The cell of layer 8: Open. -/
import Derived.Test.YtmleiemlfogffaaGreatCell4
namespace Go.Proofs.YtmleiemlfogffaaGreat
set_option maxRecDepth 100000
open Go.RowKit

theorem open_nil (mx : Int) (w : World) :
    Calls Tryz.prog 36 #[.pointer none, .int .u32 mx] w fun e w' => e = .returned (.tuple #[.pointer none, .int .i64 1]) ∧ w' = w := by
  go_enter Tryz.func36, Tryz.ntmps36
  go_wp2_with fail
  go_ret2
  exact ⟨rfl, rfl⟩
theorem open_no (m g n mx : Nat) (s : Ms) (w : World) (hM : MR w m g n s) (h : mx = 0 ∨ n < 10) :
    Calls Tryz.prog 36 #[.pointer (some ⟨m, 0, none⟩), .int .u32 (mx : Nat)] w fun e w' => e = .returned (.tuple #[.pointer none, .int .i64 2]) ∧ w' = w := by
  have q := size_any m g n s w hM
  clear hM
  by_cases h0 : mx = 0
  · subst h0
    clear h q
    go_enter Tryz.func36, Tryz.ntmps36
    go_wp2_with fail
    go_ret2
    exact ⟨rfl, rfl⟩
  · have h1 : n < 10 := by omega
    have h2 : ¬ (mx : Int) = 0 := by omega
    clear h h0
    go_enter Tryz.func36, Tryz.ntmps36
    go_wp2_with (go_at_call 73; refine q.mono ?_; rintro e w' ⟨rfl, hw⟩; rw [hw]; clear hw)
    go_ret2
    exact ⟨rfl, rfl⟩
set_option maxRecDepth 100000 in
set_option maxHeartbeats 2000000 in
theorem open_off (m g n mx : Nat) (s : Ms) (w : World) (hM : MR w m g n s) (hn : 10 ≤ n) (h0 : mx ≠ 0) (ho : s.off = true) :
    Calls Tryz.prog 36 #[.pointer (some ⟨m, 0, none⟩), .int .u32 (mx : Nat)] w fun e w' => e = .returned (.tuple #[.pointer none, .int .i64 70]) ∧ (Off [m, g] w w' ∧ MR w' m g n s) := by
  have q := size_any m g n s w hM
  have h2 : ((mx : Int) == 0) = false := by simpa using h0
  have h3 : decide ((n : Int) < 10) = false := by simp; omega
  have hA : Off [m, g] w (w.alloc (.cells (CV m mx (fun _ => 0) (fun _ => 0) false) 135)) := Off.alloc _ _ _
  have M1 := hM.off (Off.alloc [] w (.cells (CV m mx (fun _ => 0) (fun _ => 0) false) 135)) (by simp) (by simp)
  have C1 : CX (w.alloc (.cells (CV m mx (fun _ => 0) (fun _ => 0) false) 135)) w.heap.size m mx (fun _ => 0) (fun _ => 0) false := ⟨heap_alloc_new w _⟩
  have q2 := cread_off _ m g n mx _ _ false s _ M1 C1 ho
  have H : Hid (_) := And.intro hA M1
  clear hM hA M1 C1 h0
  go_enter Tryz.func36, Tryz.ntmps36
  go_wp2_with (go_at_call 73; refine q.mono ?_; rintro e w' ⟨rfl, hw⟩; rw [hw]; clear hw)
  refine q2.mono ?_
  rintro e w' ⟨rfl, hw⟩
  rw [hw]
  clear hw
  go_wp2_with fail
  go_ret2
  exact ⟨rfl, H.out⟩
set_option maxRecDepth 100000 in
set_option maxHeartbeats 2000000 in
theorem open_go (m g n mx : Nat) (s : Ms) (w : World) (hM : MR w m g n s) (hn : 10 ≤ n) (h0 : mx ≠ 0) (ho : s.off = false) (ht : s.t < 9223372036854775000) :
    Calls Tryz.prog 36 #[.pointer (some ⟨m, 0, none⟩), .int .u32 (mx : Nat)] w fun e w' =>
      ∃ p, e = .returned (.tuple #[.pointer p, .int .i64 (sqE n (mend s.bs) s)]) ∧ Hid (Off [m, g] w w' ∧ MR w' m g n (sqS n (mend s.bs) s) ∧ (sqE n (mend s.bs) s = 0 → p = some ⟨w.heap.size, 0, none⟩ ∧ CS w' w.heap.size m mx (sqS n (mend s.bs) s).bs false) ∧ (¬ sqE n (mend s.bs) s = 0 → p = none)) := by
  have q := size_any m g n s w hM
  have h2 : ((mx : Int) == 0) = false := by simpa using h0
  have h3 : decide ((n : Int) < 10) = false := by simp; omega
  have lm := hM.lt
  have lg := hM.lg
  have M1 := hM.off (Off.alloc [] w (.cells (CV m mx (fun _ => 0) (fun _ => 0) false) 135)) (by simp) (by simp)
  have C1 : CX (w.alloc (.cells (CV m mx (fun _ => 0) (fun _ => 0) false) 135)) w.heap.size m mx (fun _ => 0) (fun _ => 0) false := ⟨heap_alloc_new w _⟩
  have q2 := cread_any _ m g n mx _ _ false s _ M1 C1 (by omega) (by omega) hn ho
  have hA : Off [m, g, w.heap.size] w (w.alloc (.cells (CV m mx (fun _ => 0) (fun _ => 0) false) 135)) := Off.alloc _ _ _
  have HA : Hid (_) := hA
  have q3 := fun w2 M2 C2 => mend_any w.heap.size m g n mx false s w2 M2 C2 (by omega) (by omega) hn ho ht
  obtain ⟨E, hE⟩ : ∃ E, sqE n (mend s.bs) s = E := ⟨_, rfl⟩
  obtain ⟨S, hS⟩ : ∃ S, sqS n (mend s.bs) s = S := ⟨_, rfl⟩
  rw [hE, hS]
  simp only [hE, hS] at q3
  clear hM M1 C1 h0 hE hS hA
  go_enter Tryz.func36, Tryz.ntmps36
  go_wp2_with (go_at_call 73; refine q.mono ?_; rintro e w' ⟨rfl, hw⟩; rw [hw]; clear hw)
  refine q2.mono ?_
  rintro e w2 ⟨rfl, o2, m2, c2⟩
  have O2 := HA.out.trans o2.three'
  have q4 := q3 w2 m2 c2
  have H2 : Hid (_) := O2
  clear O2 o2 q3 HA m2 c2 q2
  go_wp2_with fail
  refine q4.mono ?_
  rintro e w3 ⟨rfl, H3⟩
  obtain ⟨o3, m3, c3⟩ := H3
  have o4 : Off [m, g] w w3 := (H2.out.trans o3).only (fun k hk hl => by simp only [List.mem_cons, List.not_mem_nil, or_false] at hk ⊢; omega)
  have H : Hid (_) := And.intro o4 (And.intro m3 c3)
  clear o3 o4 m3 c3 H2 q4 q
  by_cases he : E = 0
  · subst he
    go_wp2_with fail
    go_ret2
    obtain ⟨O, M, C⟩ := H.out
    first | exact ⟨_, rfl, O, M, rfl, C trivial⟩ | exact ⟨_, rfl, O, M, rfl, C rfl⟩ | exact ⟨_, rfl, O, M, rfl, C⟩ | exact ⟨_, rfl, ⟨O, M, rfl, C⟩⟩ | exact ⟨_, rfl, ⟨O, M, rfl, C rfl⟩⟩
  · go_wp2_with fail
    go_ret2
    obtain ⟨O, M, C⟩ := H.out
    exact ⟨_, rfl, O, M, fun h => absurd h he, fun _ => rfl⟩

end Go.Proofs.YtmleiemlfogffaaGreat
