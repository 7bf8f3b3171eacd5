/- Log, Reset. -/
import Derived.Test.YtmleiemlfogffaaGreatDwF
namespace Go.Proofs.YtmleiemlfogffaaGreat
set_option maxRecDepth 100000
open Go.RowKit

theorem log_nil (w : World) : Calls Tryz.prog 24 #[.pointer none] w fun e w' => e = .returned (.tuple #[.slice none 0 0, .int .i64 0]) ∧ w' = w := by
  go_enter Tryz.func24, Tryz.ntmps24
  go_wp2_with fail
  go_ret2
  exact ⟨rfl, rfl⟩
set_option maxHeartbeats 1600000 in
theorem log_any (d m g n mx : Nat) (P : Pm) (U : List Nat) (s : Sd) (w : World) (h : DV w d m g n mx P U s) (hL : s.L.length < 1000000) :
    Calls Tryz.prog 24 #[.pointer (some ⟨d, 0, none⟩)] w fun e w' => ∃ v, e = .returned (.tuple #[v, .int .i64 (s.L.length : Nat)]) ∧ Hid (w'.ownsRow w.heap.size 140 4 v (lst s.L).length (rvs (lst s.L)) ∧ Below w.heap.size w w') := by
  obtain ⟨B, x⟩ := h
  have xd := x.newd (Off.drew [] w)
  have hR := records_any B.lb B.Ul s.L w.drew xd.log hL
  have HS : w.drew.cell? ⟨d, 8, none⟩ = some (.pointer (some ⟨B.lb, 0, none⟩)) := x.cells.2.2.2.2.2.2.2.2.1
  have HX : Hid (_) := And.intro xd hL
  clear x xd hL
  go_enter Tryz.func24, Tryz.ntmps24
  go_wp2_with fail
  go_region_held3 (fun w' => w'.cell? ⟨d, 8, none⟩ = some (.pointer (some ⟨B.lb, 0, none⟩))) (assumption) (first
    | (go_at_call 59; refine hR.mono ?_; rintro e w2 ⟨v, rfl, h2⟩; have x2 := HX.out.1.newd (Off.of_below h2.out.2); have hT := dtotal_any _ _ _ _ x2.log HX.out.2; have HT : w2.cell? ⟨d, 8, none⟩ = some (.pointer (some ⟨B.lb, 0, none⟩)) := x2.cells.2.2.2.2.2.2.2.2.1; clear x2 hR)
    | (go_at_call 60; refine hT.mono ?_; rintro e w' ⟨rfl, hw⟩; have hw := hw.symm; subst hw))
  all_goals
    clear hT HS HT
    go_wp2_with fail
    go_ret2
    exact ⟨v, rfl, h2.out.1, (Below.drew (Below.refl _ _)).trans h2.out.2⟩
theorem reset_nil (k : Int) (w : World) : Calls Tryz.prog 29 #[.pointer none, .int .i64 k] w fun e w' => e = .returned (.int .i64 1) ∧ w' = w := by
  go_enter Tryz.func29, Tryz.ntmps29
  go_wp2_with fail
  go_ret
  exact ⟨rfl, rfl⟩
theorem reset_neg (d : Nat) (k : Int) (w : World) (hk : k < 0) : Calls Tryz.prog 29 #[.pointer (some ⟨d, 0, none⟩), .int .i64 k] w fun e w' => e = .returned (.int .i64 2) ∧ w' = w := by
  go_enter Tryz.func29, Tryz.ntmps29
  go_wp2_with fail
  go_ret
  exact ⟨rfl, rfl⟩

end Go.Proofs.YtmleiemlfogffaaGreat
