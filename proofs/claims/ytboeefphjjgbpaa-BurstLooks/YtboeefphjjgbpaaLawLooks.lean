/- The walk of the statement BurstLooks. -/
import Derived.Test.YtboeefphjjgbpaaLaw03
import Derived.Test.YtboeefphjjgbpaaParts2
namespace Go.Proofs.Ytboeefphjjgbpaa
open Go.RowKit
set_option maxHeartbeats 1000000 in
theorem burstLooks_long (a0 : Option Addr) (len0 cap0 : Nat) (w : World) (h : 4000 < len0) :
    Calls Try.prog 3 #[.slice a0 len0 cap0] w fun e w' => e = .returned (.bool true) ∧ Below w.heap.size w w' := by
  go_enter Try.func3, Try.ntmps3
  go_wp2_with (go_at_call 9; refine (awake3 _).mono ?_; rintro e w' ⟨rfl, hb⟩)
  go_ret
  exact ⟨rfl, hb⟩
set_option maxRecDepth 100000 in
set_option maxHeartbeats 1000000 in
theorem burstLooks_any (a0 : Option Addr) (len0 cap0 : Nat) (f : Nat → Nat) (w : World) (r0 : Row8 w a0 len0 cap0 f) (hl0 : len0 ≤ 4000) :
    Calls Try.prog 3 #[.slice a0 len0 cap0] w fun e w' => e = .returned (.bool true) ∧ Below w.heap.size w w' := by
  obtain ⟨R, S, hR, hS⟩ : ∃ R S, PM.IsFirst (PM.fb f) (8 * len0) R ∧ PM.IsLast (PM.fb f) (8 * len0) S := by
    rcases PM.PT_last (PM.fb f) (8 * len0) with ⟨_, h⟩ | ⟨j, _, h⟩ <;> rcases PM.PT_first (PM.fb f) (8 * len0) with ⟨_, k⟩ | ⟨i, _, k⟩ <;> exact ⟨_, _, k, h⟩
  have HRS : Hid (_) := And.intro hR hS
  have hneg := PM.IsFirst.neg hR hS
  have hspn : -1 ≤ spn R S ∧ spn R S ≤ 100000 := by unfold spn; split <;> omega
  have hRl : -1 ≤ R ∧ R ≤ 100000 := by omega
  have hSl : -1 ≤ S ∧ S ≤ 100000 := by omega
  clear hR hS hneg
  go_enter Try.func3, Try.ntmps3
  go_wp2_with fail
  refine (awake3 w).mono ?_
  rintro e w1 ⟨rfl, hb1⟩
  have p1 := r0.below hb1
  have HB1 : Hid (Below w.heap.size w w1) := hb1
  have hs1 := hb1.size
  clear hb1
  go_wp2_with fail
  refine (parts_row a0 len0 cap0 f w1 p1 (by omega)).mono ?_
  rintro e w2 ⟨v2, rfl, H2⟩
  obtain ⟨a2, c2, rfl, L2⟩ := own_rowL H2.out.2
  have p2 := p1.below H2.out.1
  have HB2 : Hid (Below w.heap.size w w2) := below_all HB1.out hs1 H2.out.1
  have hs2 := HB2.out.size
  have hlb : (PM.PT (PM.fb f) (8 * len0)).length = PM.cnt (PM.fb f) (8 * len0) := PM.PT_length _ _
  have hcl := PM.cnt_le (PM.fb f) (8 * len0)
  have HL2 : Hid (_) := L2
  obtain ⟨l, hl⟩ : ∃ l, l = PM.PT (PM.fb f) (8 * len0) := ⟨_, rfl⟩
  rw [← hl] at HL2 hlb ⊢
  obtain ⟨n, hn⟩ : ∃ n, n = l.length := ⟨_, rfl⟩
  rw [← hn] at hlb ⊢
  have HN : Hid (l = PM.PT (PM.fb f) (8 * len0) ∧ n = l.length ∧ n = PM.cnt (PM.fb f) (8 * len0)) := ⟨hl, hn, hlb⟩
  have hnl : n ≤ 8 * len0 := by omega
  clear HB1 hs1 H2 p1 L2 hl hn hlb hcl
  go_wp2_with fail
  refine (refParts_row a0 len0 cap0 f w2 p2 (by omega)).mono ?_
  rintro e w3 ⟨v3, rfl, H3⟩
  obtain ⟨a3, c3, rfl, L3⟩ := own_rowL H3.out.2
  have p3 := p2.below H3.out.1
  have HB3 : Hid (Below w.heap.size w w3) := below_all HB2.out hs2 H3.out.1
  have hs3 := HB3.out.size
  rw [← HN.out.1] at L3 ⊢
  have hE := equal_same a2 a3 c2 c3 l w3 (RowL.below HL2.out H3.out.1) L3 (by rw [← HN.out.2.1]; omega)
  rw [← HN.out.2.1] at hE ⊢
  clear HB2 hs2 H3 p2 HL2 L3
  go_wp2_with fail
  refine hE.mono ?_
  rintro e w4 ⟨rfl, m, rfl⟩
  have p4 := p3.drewN m
  have HB4 : Hid (Below w.heap.size w (w3.drewN m)) := below_drewN HB3.out m
  have hs4 := HB4.out.size
  clear hE HB3 hs3 p3
  generalize w3.drewN m = w4 at *
  have hF := first_said a0 len0 cap0 f w4 p4 (by omega) R HRS.out.1
  go_wp2_with fail
  refine hF.mono ?_
  rintro e w' ⟨rfl, hw⟩
  rw [hw]
  clear hw hF
  go_wp2_with fail
  refine (refFirst_row a0 len0 cap0 f w4 p4 (by omega)).mono ?_
  rintro e w5 ⟨R', rfl, hb5, hR'⟩
  obtain rfl := PM.IsFirst.one hR' HRS.out.1
  have p5 := p4.below hb5
  have HB5 : Hid (Below w.heap.size w w5) := below_all HB4.out hs4 hb5
  have hs5 := HB5.out.size
  have hL := last_said a0 len0 cap0 f w5 p5 (by omega) S HRS.out.2
  clear hb5 hR' p4 HB4 hs4
  go_wp2_with fail
  refine hL.mono ?_
  rintro e w' ⟨rfl, hw⟩
  rw [hw]
  clear hw hL
  go_wp2_with fail
  refine (refLast_row a0 len0 cap0 f w5 p5 (by omega)).mono ?_
  rintro e w6 ⟨S', rfl, hb6, hS'⟩
  obtain rfl := PM.IsLast.one hS' HRS.out.2
  have p6 := p5.below hb6
  have HB6 : Hid (Below w.heap.size w w6) := below_all HB5.out hs5 hb6
  have hs6 := HB6.out.size
  have hP := span_said a0 len0 cap0 f w6 p6 (by omega) _ _ HRS.out.1 HRS.out.2
  clear hb6 hS' p5 HB5 hs5
  obtain ⟨T, hT⟩ : ∃ T, T = spn R' S' := ⟨_, rfl⟩
  rw [← hT] at hP hspn
  have HT : Hid (T = spn R' S') := hT
  clear hT
  go_wp2_with fail
  refine hP.mono ?_
  rintro e w' ⟨rfl, hw⟩
  rw [hw]
  clear hw hP
  go_wp2_with fail
  refine (refSpan_row a0 len0 cap0 f w6 p6 (by omega)).mono ?_
  rintro e w7 ⟨R2, S2, rfl, hb7, hR2, hS2⟩
  obtain rfl := PM.IsFirst.one hR2 HRS.out.1
  obtain rfl := PM.IsLast.one hS2 HRS.out.2
  rw [← HT.out]
  have p7 := p6.below hb7
  have HB7 : Hid (Below w.heap.size w w7) := below_all HB6.out hs6 hb7
  have hW := weight_row a0 len0 cap0 f w7 p7 (by omega)
  rw [← HN.out.2.2] at hW
  clear hb7 hR2 hS2 p6 p7 HB6 hs6 HT r0 HRS HN
  go_wp2_with (go_at_call 19; refine hW.mono ?_; rintro e w' ⟨rfl, hw⟩; rw [hw]; clear hw)
  go_ret
  exact ⟨rfl, HB7.out⟩
theorem burstLooks_walk (a0 : Option Addr) (len0 cap0 : Nat) (z0 : List Int) (w : World) (w0 : BRow .u8 w a0 len0 cap0 z0) :
    Calls Try.prog 3 #[.slice a0 len0 cap0] w fun e w' => e = .returned (.bool true) ∧ Below w.heap.size w w' := by
  by_cases h : len0 ≤ 4000
  · exact burstLooks_any a0 len0 cap0 _ w w0.row8 h
  · exact burstLooks_long a0 len0 cap0 w (by omega)

end Go.Proofs.Ytboeefphjjgbpaa
