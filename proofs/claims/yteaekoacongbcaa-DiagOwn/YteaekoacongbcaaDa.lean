/- Awake, and a diag that is nothing. -/
import Derived.Test.YteaekoacongbcaaDr
namespace Go.Proofs.Yteaekoacongbcaa
open Go.RowKit Go.Maps

/-- Records that are alike. -/
theorem rec_eq (a0 a1 a2 a3 b0 b1 b2 b3 : Int) (w : World) : (Op.equalIn 10000 32 (.agg #[.int .i64 a0, .int .i64 a1, .int .u32 a2, .int .u32 a3]) (.agg #[.int .i64 b0, .int .i64 b1, .int .u32 b2, .int .u32 b3])).run Try.prog w = .ok (decide ((a0, a1, a2, a3) = (b0, b1, b2, b3))) w := by
  have hS : Try.prog.underlying 32 = some (.struct (Try.prog.fieldsOf 32)) := by kernel_rfl
  have hp : Try.prog.stoodInHeld 32 = false := by kernel_rfl
  rw [show (10000 : Nat) = 9999 + 1 from rfl, run_equalIn_agg w 9999 32 _ _ hS hp]
  simp only [Program.fieldsOf, Try.underlying32]
  go_simp
  by_cases h1 : a0 = b0 <;> by_cases h2 : a1 = b1 <;> by_cases h3 : a2 = b2 <;> by_cases h4 : a3 = b3 <;> simp [h1, h2, h3, h4]
set_option maxHeartbeats 4000000 in
set_option maxRecDepth 100000 in
theorem awake12 (w : World) : Calls Try.prog 7 #[] w fun e w' => e = .returned (.bool true) ∧ Below w.heap.size w w' := by
  have hN := dnew_any w
  go_enter Try.func7, Try.ntmps7
  go_wp2_with fail
  refine hN.mono ?_
  rintro e w1 ⟨rfl, H1⟩
  go_wp2_with fail
  refine (dnote_any _ _ [] 100 3 7 w1 H1.out.2.2 (by simp) (by decide) (by decide)).mono ?_
  rintro e w2 ⟨rfl, H2⟩
  have hb2 : Hid (Below w.heap.size w w2 ∧ ∃ U, DG w2 (w.heap.size + 2) U [(1, 100, 3, 7)]) := by
    obtain ⟨h1, h2, h3⟩ := H1.out
    obtain ⟨U', ho, hd, _⟩ := H2.out
    exact ⟨ho.below h1 (by simp) (by omega), U', hd⟩
  clear H1 H2 hN
  obtain ⟨U, hd⟩ := hb2.out.2
  have hl := dlast_some _ U _ w2 hd (by simp) (by simp)
  simp only [List.length_cons, List.length_nil, Nat.zero_add, Nat.sub_self, List.getElem_cons_zero] at hl
  go_wp2_with fail
  refine hl.mono ?_
  rintro e w3 ⟨rfl, hb3⟩
  have hd3 := hd.below hb3
  have hb4 : Hid (Below w.heap.size w w3) := hb2.out.1.trans (hb3.mono hb2.out.1.size)
  clear hb3 hb2 hl hd
  have ht := dtotal_any _ U _ _ (hd3.off (Off.alloc [] w3 (.cells #[.int .i64 1, .int .i64 100, .int .u32 3, .int .u32 7] 32)) (by simp)) (by simp)
  clear hd3
  go_wp2_with fail
  refine ht.mono ?_
  rintro e w4 ⟨rfl, rfl⟩
  go_wp2_with fail
  go_ret
  exact ⟨rfl, hb4.out.alloc hb4.out.size _⟩
end Go.Proofs.Yteaekoacongbcaa
