/- The walk of the statement UnitBursts. -/
import Derived.Test.YthddomhlkljlkaaLaw04
import Derived.Test.YthddomhlkljlkaaUSame
import Derived.Test.YthddomhlkljlkaaURef
import Derived.Test.YthddomhlkljlkaaAgg
import Derived.Test.YthddomhlkljlkaaLawOdd
namespace Go.Proofs.Ythddomhlkljlkaa
open Go.RowKit
theorem nat32V {x : Int} (h : (Lit.int .u32 x).wf = true) : ∃ n : Nat, x = n ∧ n < 4294967296 := by
  have := bounds_u32 h
  exact ⟨x.toNat, by omega, by omega⟩
theorem row_nilU (w : World) (bs : Nat → Nat) : Row8 w none 0 0 bs := ⟨fun i hi => by omega, fun _ => ⟨rfl, rfl⟩, (fun x hx => by cases hx), Nat.le_refl _⟩
set_option maxRecDepth 100000 in
set_option maxHeartbeats 1000000 in
theorem unitBursts_long (k : Int) (c s n : Nat) (f : Int) (a : Option Addr) (len cap : Nat) (at_ : Int) (x : Nat) (a1 : Option Addr) (len1 cap1 : Nat) (w : World) (h : 1000 < len ∨ 1000 < len1) :
    Calls Try.prog 8 #[.agg #[.int .i64 k, .int .u32 c, .int .u32 s, .int .u32 n, .int .i64 f, .slice a len cap], .int .i64 at_, .int .u32 x, .slice a1 len1 cap1] w fun e w' => e = .returned (.bool true) ∧ Below w.heap.size w w' := by
  have hA : Below w.heap.size w (w.alloc (.cells #[.int .i64 k, .int .u32 c, .int .u32 s, .int .u32 n, .int .i64 f, .slice a len cap] 29)) := (Below.refl _ _).alloc (Nat.le_refl _) _
  have hAs : w.heap.size < (w.alloc (.cells #[.int .i64 k, .int .u32 c, .int .u32 s, .int .u32 n, .int .i64 f, .slice a len cap] 29)).heap.size := by simp
  have hX := box_new w k c s n f (.slice a len cap)
  have hw := awake4 (w.alloc (.cells #[.int .i64 k, .int .u32 c, .int .u32 s, .int .u32 n, .int .i64 f, .slice a len cap] 29))
  go_enter Try.func8, Try.ntmps8
  go_wp2_with fail
  generalize w.alloc (.cells #[.int .i64 k, .int .u32 c, .int .u32 s, .int .u32 n, .int .i64 f, .slice a len cap] 29) = wa at *
  refine hw.mono ?_
  rintro e w1 ⟨rfl, hb1⟩
  have x5 := (hX w1 hb1).c5
  have hb2 : Below w.heap.size w w1 := hA.trans (hb1.mono (Nat.le_of_lt hAs))
  clear hw hX
  by_cases h1 : 1000 < len
  · have q : decide ((1000 : Int) < (len : Int)) = true := by simp; omega
    clear h
    go_wp2_with fail
    go_ret
    exact ⟨rfl, hb2⟩
  · have q : decide ((1000 : Int) < (len : Int)) = false := by simp; omega
    have q1 : decide ((1000 : Int) < (len1 : Int)) = true := by simp; omega
    clear h
    go_wp2_with fail
    go_ret
    exact ⟨rfl, hb2⟩
set_option maxRecDepth 100000 in
set_option maxHeartbeats 1000000 in
theorem unitBursts_bad (k : Int) (c s n : Nat) (f : Int) (a : Option Addr) (len cap : Nat) (at_ : Int) (x : Nat) (a1 : Option Addr) (len1 cap1 : Nat) (w : World) (h : len ≤ 1000) (h1 : len1 ≤ 1000) (hE : LW k c s n f len len ≠ 0) :
    Calls Try.prog 8 #[.agg #[.int .i64 k, .int .u32 c, .int .u32 s, .int .u32 n, .int .i64 f, .slice a len cap], .int .i64 at_, .int .u32 x, .slice a1 len1 cap1] w fun e w' => e = .returned (.bool true) ∧ Below w.heap.size w w' := by
  have hA : Below w.heap.size w (w.alloc (.cells #[.int .i64 k, .int .u32 c, .int .u32 s, .int .u32 n, .int .i64 f, .slice a len cap] 29)) := (Below.refl _ _).alloc (Nat.le_refl _) _
  have hAs : w.heap.size < (w.alloc (.cells #[.int .i64 k, .int .u32 c, .int .u32 s, .int .u32 n, .int .i64 f, .slice a len cap] 29)).heap.size := by simp
  have hX := box_new w k c s n f (.slice a len cap)
  have hw := awake4 (w.alloc (.cells #[.int .i64 k, .int .u32 c, .int .u32 s, .int .u32 n, .int .i64 f, .slice a len cap] 29))
  have q : decide ((1000 : Int) < (len : Int)) = false := by simp; omega
  have q1 : decide ((1000 : Int) < (len1 : Int)) = false := by simp; omega
  have hB := fun w => refEncode_bad k c s n f a len cap w hE
  generalize LW k c s n f len len = E at *
  have qE : (E == 0) = false := by simpa using hE
  go_enter Try.func8, Try.ntmps8
  go_wp2_with fail
  generalize w.alloc (.cells #[.int .i64 k, .int .u32 c, .int .u32 s, .int .u32 n, .int .i64 f, .slice a len cap] 29) = wa at *
  refine hw.mono ?_
  rintro e w1 ⟨rfl, hb1⟩
  obtain ⟨x0, x1, x2, x3, x4, x5⟩ := hX w1 hb1
  have hs1 := hb1.size
  clear hw hX
  go_wp2_with fail
  refine (hB w1).mono ?_
  rintro e w2 ⟨rfl, hb2'⟩
  have hb2 := below_all hb1 hs1 hb2'
  have hb6 : Below w.heap.size w w2 := hA.trans (hb2.mono (Nat.le_of_lt hAs))
  clear hB hb2'
  go_wp2_with fail
  go_ret
  exact ⟨rfl, hb6⟩
set_option maxRecDepth 100000 in
set_option maxHeartbeats 2000000 in
theorem unitBursts_good (K c s n F : Nat) (a : Option Addr) (len cap : Nat) (bs : Nat → Nat) (at_ : Int) (x : Nat) (a1 : Option Addr) (len1 cap1 : Nat) (zs : Nat → Int) (w : World) (hr : Row8 w a len cap bs) (hx : x < 4294967296) (hc : c < 4294967296) (hs : s < 4294967296) (hn : n < 4294967296) (h1 : len1 ≤ 1000) (hE : LW K c s n F len len = 0)
    (hz : ∀ i, i < len1 → ∃ b off, a1 = some ⟨b, off, none⟩ ∧ w.cell? ⟨b, off + i, none⟩ = some (.int .i64 (zs i)) ∧ b < w.heap.size) :
    Calls Try.prog 8 #[.agg #[.int .i64 K, .int .u32 c, .int .u32 s, .int .u32 n, .int .i64 F, .slice a len cap], .int .i64 at_, .int .u32 x, .slice a1 len1 cap1] w fun e w' => e = .returned (.bool true) ∧ Below w.heap.size w w' := by
  have hA : Below w.heap.size w (w.alloc (.cells #[.int .i64 K, .int .u32 c, .int .u32 s, .int .u32 n, .int .i64 F, .slice a len cap] 29)) := (Below.refl _ _).alloc (Nat.le_refl _) _
  have hAs : w.heap.size < (w.alloc (.cells #[.int .i64 K, .int .u32 c, .int .u32 s, .int .u32 n, .int .i64 F, .slice a len cap] 29)).heap.size := by simp
  have hX := box_new w K c s n F (.slice a len cap)
  have hw := awake4 (w.alloc (.cells #[.int .i64 K, .int .u32 c, .int .u32 s, .int .u32 n, .int .i64 F, .slice a len cap] 29))
  obtain ⟨hkk, _, _, hll, hff⟩ := LW_zero hE
  have hl8 : len ≤ 8 := by omega
  have q : decide ((1000 : Int) < (len : Int)) = false := by simp; omega
  have q1 : decide ((1000 : Int) < (len1 : Int)) = false := by simp; omega
  have hEn := fun w hr => refEncode_good K c s n F a len cap bs w hr hc hs hn hE
  have hby : ∀ i, i < 15 + len + 4 → PM.sl (fr K c s n F len bs) (15 + len) i < 256 := PM.ct_lt (k := 4) (fr_lt (by omega) (by omega) (by omega) hr.byte) (fun i _ => PM.w4_lt _ i)
  have HS : Hid (PM.R PM.g 32 (PM.V (PM.fb (PM.sl (fr K c s n F len bs) (15 + len))) (8 * (15 + len + 4))) = 0) := PM.V_sl _ _
  obtain ⟨N, hN⟩ : ∃ N, N = 15 + len + 4 := ⟨_, rfl⟩
  rw [← hN] at hEn hby HS
  have hN1 : 19 ≤ N := by omega
  have hN2 : N ≤ 27 := by omega
  obtain ⟨M, hM⟩ : ∃ M, M = 8 * N := ⟨_, rfl⟩
  have hMI : (8 : Int) * (N : Int) = (M : Int) := by omega
  have hM0 : 0 < M := by omega
  have hM1 : M ≤ 1000000 := by omega
  have HM : Hid (M = 8 * N) := hM
  generalize PM.sl (fr K c s n F len bs) (15 + len) = SL at *
  have hrA := hr.below hA
  have HA : Hid (_) := And.intro hA hAs
  clear hr hE hN hM hkk hll hff hl8
  go_enter Try.func8, Try.ntmps8
  go_wp2_with fail
  generalize w.alloc (.cells #[.int .i64 K, .int .u32 c, .int .u32 s, .int .u32 n, .int .i64 F, .slice a len cap] 29) = wa at *
  refine hw.mono ?_
  rintro e w1 ⟨rfl, hb1⟩
  obtain ⟨x0, x1, x2, x3, x4, x5⟩ := hX w1 hb1
  have hs1 := hb1.size
  have hEn1 := hEn w1 (hrA.below hb1)
  clear hw hX hEn hrA
  go_wp2_with fail
  refine hEn1.mono ?_
  rintro e w2 ⟨v2, rfl, H2⟩
  obtain ⟨a3, c3, rfl, R2⟩ := own_row8 H2.out.1 hby
  have hb2 := below_all hb1 hs1 H2.out.2
  have hs2 := hb2.size
  have hbw2 : Below w.heap.size w w2 := HA.out.1.trans (hb2.mono (Nat.le_of_lt HA.out.2))
  clear hEn1 H2 hb1 hA hAs hby x0 x1 x2 x3 x4 x5
  by_cases hno : x = 0 ∨ 8 * N < PM.bl x
  · go_wp2_with fail
    refine (burst_no a3 N c3 at_ x w2 (by omega) hx hno).mono ?_
    rintro e w3 ⟨rfl, hw3⟩
    have RW : Row8 w3 a3 N c3 SL := by rw [hw3]; exact R2
    have hbW : Below wa.heap.size wa w3 := by rw [hw3]; exact hb2
    have hsW := hbW.size
    have hbW0 : Below w.heap.size w w3 := by rw [hw3]; exact hbw2
    clear hno R2 hb2 hs2 hbw2 hw3 hs1
    have hP := places_any a1 len1 cap1 M zs w3 (by omega) (by omega) (by omega) (fun i hi => by
      obtain ⟨b, off, h1, h2, h3⟩ := hz i hi
      exact ⟨b, off, h1, (hbW0.cell h3).trans h2, Nat.lt_of_lt_of_le h3 hbW0.size⟩)
    clear hz
    go_wp2_with fail
    refine hP.mono ?_
    rintro e w5 ⟨v5, rfl, H5⟩
    obtain ⟨hb5', kk, ps, hkk, hown5, hps⟩ := H5.out
    have hb5 := below_all hbW hsW hb5'
    have hs5 := hb5.size
    obtain ⟨a5, c5, rfl, RI⟩ := own_rowI hown5
    have hT := turned_any a3 N c3 SL a5 kk c5 ps w5 (RW.below hb5') RI (fun i hi => by have := hps i hi; have := HM.out; omega) (by omega) (by omega)
    have hbw5 : Below w.heap.size w w5 := HA.out.1.trans (hb5.mono (Nat.le_of_lt HA.out.2))
    clear hP H5 hown5 hps RW RI hb5' hbW0
    rcases (show kk % 2 = 0 ∨ kk % 2 = 1 by omega) with he | ho
    · have hm : (kk : Int) % 2 = 0 := by omega
      have hm2 : (kk : Int).tmod 2 = 0 := by rw [Int.tmod_eq_emod_of_nonneg (by omega)]; exact hm
      clear hT he
      go_wp2_with fail
      go_ret
      exact ⟨rfl, hbw5⟩
    · have hm : (kk : Int) % 2 = 1 := by omega
      have hm2 : (kk : Int).tmod 2 = 1 := by rw [Int.tmod_eq_emod_of_nonneg (by omega)]; exact hm
      go_wp2_with fail
      refine hT.mono ?_
      rintro e w6 ⟨v6, rfl, hb6', f2, d, hown6, hfb2, hV2, hpar, hd0⟩
      obtain ⟨a6, c6, rfl, R6⟩ := own_row8 hown6 hfb2
      have hD : DE f2 N = 42 := DE_check hN1 hN2 (fun h => by
        unfold vld at h
        rw [hV2, PM.R_xor, HS.out, Nat.zero_xor] at h
        have h1 := R3_of_g d h
        rw [hpar, ho] at h1
        cases h1)
      have hDe := decode_no a6 N c6 f2 w6 R6 (by rw [hD]; omega)
      rw [hD] at hDe
      have hb6 := below_all hbw5 (by have := hbw5.size; exact this) hb6'
      clear hT hb6' R6 hown6 hfb2 hV2 hpar hd0 hD
      go_wp2_with fail
      refine hDe.mono ?_
      rintro e w7 ⟨rfl, hb7'⟩
      have hb7 := below_all hb6 hb6.size hb7'
      have hb8 := hb7.alloc hb7.size (.cells #[.int .i64 0, .int .u32 0, .int .u32 0, .int .u32 0, .int .i64 0, .slice none 0 0] 29)
      have hSm := same_any 0 0 0 0 0 none none 0 0 0 SL (w7.alloc (.cells #[.int .i64 0, .int .u32 0, .int .u32 0, .int .u32 0, .int .i64 0, .slice none 0 0] 29)) (row_nilU _ _) (row_nilU _ _)
      clear hDe hb7' hb6
      go_wp2_with fail
      refine hSm.mono ?_
      rintro e w9 ⟨rfl, hb9'⟩
      have hb9 := below_all hb8 hb8.size hb9'
      clear hSm hb9' hb8 hb7
      go_wp2_with fail
      go_ret
      exact ⟨rfl, hb9⟩
  · go_wp2_with fail
    refine (burst_yes a3 N c3 at_ x SL w2 R2 (by omega) hx (by omega) (by omega)).mono ?_
    rintro e w3 ⟨v, rfl, hb3', f3, d3, hown3, hfb3, hV3⟩
    obtain ⟨a4, c4, rfl, R3⟩ := own_row8 hown3 hfb3
    have hD3 : DE f3 N = 42 := DE_check hN1 hN2 (fun h => by
      unfold vld at h
      rw [hV3, PM.R_xor, HS.out, Nat.zero_xor] at h
      have := PM.burst x d3 hx h
      omega)
    have hDe3 := decode_no a4 N c4 f3 w3 R3 (by rw [hD3]; omega)
    rw [hD3] at hDe3
    have R23 := R2.below hb3'
    have hb3 := below_all hb2 hs2 hb3'
    have hs3 := hb3.size
    clear hno hb2 hbw2 hb3' hown3 hfb3 hV3 R3 hD3 R2 hs2 hs1
    go_wp2_with fail
    refine hDe3.mono ?_
    rintro e w4 ⟨rfl, hb4'⟩
    have hb4 := below_all hb3 hs3 hb4'
    have hs4 := hb4.size
    have hbW := hb4.alloc hs4 (.cells #[.int .i64 0, .int .u32 0, .int .u32 0, .int .u32 0, .int .i64 0, .slice none 0 0] 29)
    have RW : Row8 (w4.alloc (.cells #[.int .i64 0, .int .u32 0, .int .u32 0, .int .u32 0, .int .i64 0, .slice none 0 0] 29)) a3 N c3 SL := (R23.below hb4').below ((Below.refl _ _).alloc (Nat.le_refl _) _)
    have hsW := hbW.size
    have hbW0 : Below w.heap.size w _ := HA.out.1.trans (hbW.mono (Nat.le_of_lt HA.out.2))
    clear hDe3 hb4' hb4 hb3 hs3 R23 hs4
    have hP := places_any a1 len1 cap1 M zs (w4.alloc (.cells #[.int .i64 0, .int .u32 0, .int .u32 0, .int .u32 0, .int .i64 0, .slice none 0 0] 29)) (by omega) (by omega) (by omega) (fun i hi => by
      obtain ⟨b, off, h1, h2, h3⟩ := hz i hi
      exact ⟨b, off, h1, (hbW0.cell h3).trans h2, Nat.lt_of_lt_of_le h3 hbW0.size⟩)
    clear hz
    go_wp2_with fail
    refine hP.mono ?_
    rintro e w5 ⟨v5, rfl, H5⟩
    obtain ⟨hb5', kk, ps, hkk, hown5, hps⟩ := H5.out
    have hb5 := below_all hbW hsW hb5'
    have hs5 := hb5.size
    obtain ⟨a5, c5, rfl, RI⟩ := own_rowI hown5
    have hT := turned_any a3 N c3 SL a5 kk c5 ps w5 (RW.below hb5') RI (fun i hi => by have := hps i hi; have := HM.out; omega) (by omega) (by omega)
    have hbw5 : Below w.heap.size w w5 := HA.out.1.trans (hb5.mono (Nat.le_of_lt HA.out.2))
    clear hP H5 hown5 hps RW RI hb5' hbW0
    rcases (show kk % 2 = 0 ∨ kk % 2 = 1 by omega) with he | ho
    · have hm : (kk : Int) % 2 = 0 := by omega
      have hm2 : (kk : Int).tmod 2 = 0 := by rw [Int.tmod_eq_emod_of_nonneg (by omega)]; exact hm
      clear hT he
      go_wp2_with fail
      go_ret
      exact ⟨rfl, hbw5⟩
    · have hm : (kk : Int) % 2 = 1 := by omega
      have hm2 : (kk : Int).tmod 2 = 1 := by rw [Int.tmod_eq_emod_of_nonneg (by omega)]; exact hm
      go_wp2_with fail
      refine hT.mono ?_
      rintro e w6 ⟨v6, rfl, hb6', f2, d, hown6, hfb2, hV2, hpar, hd0⟩
      obtain ⟨a6, c6, rfl, R6⟩ := own_row8 hown6 hfb2
      have hD : DE f2 N = 42 := DE_check hN1 hN2 (fun h => by
        unfold vld at h
        rw [hV2, PM.R_xor, HS.out, Nat.zero_xor] at h
        have h1 := R3_of_g d h
        rw [hpar, ho] at h1
        cases h1)
      have hDe := decode_no a6 N c6 f2 w6 R6 (by rw [hD]; omega)
      rw [hD] at hDe
      have hb6 := below_all hbw5 (by have := hbw5.size; exact this) hb6'
      clear hT hb6' R6 hown6 hfb2 hV2 hpar hd0 hD
      go_wp2_with fail
      refine hDe.mono ?_
      rintro e w7 ⟨rfl, hb7'⟩
      have hb7 := below_all hb6 hb6.size hb7'
      have hb8 := hb7.alloc hb7.size (.cells #[.int .i64 0, .int .u32 0, .int .u32 0, .int .u32 0, .int .i64 0, .slice none 0 0] 29)
      have hSm := same_any 0 0 0 0 0 none none 0 0 0 SL (w7.alloc (.cells #[.int .i64 0, .int .u32 0, .int .u32 0, .int .u32 0, .int .i64 0, .slice none 0 0] 29)) (row_nilU _ _) (row_nilU _ _)
      clear hDe hb7' hb6
      go_wp2_with fail
      refine hSm.mono ?_
      rintro e w9 ⟨rfl, hb9'⟩
      have hb9 := below_all hb8 hb8.size hb9'
      clear hSm hb9' hb8 hb7
      go_wp2_with fail
      go_ret
      exact ⟨rfl, hb9⟩
theorem unitBursts_walk (a0_0 : Int) (a0_1 : Int) (a0_2 : Int) (a0_3 : Int) (a0_4 : Int) (a0_5 : Option Addr) (len0_5 cap0_5 : Nat) (z0_5 : List Int) (a1 : Int) (a2 : Int) (a3 : Option Addr) (len3 cap3 : Nat) (z3 : List Int) (w : World)
    (w0_0 : (Lit.int .i64 a0_0).wf = true) (w0_1 : (Lit.int .u32 a0_1).wf = true) (w0_2 : (Lit.int .u32 a0_2).wf = true) (w0_3 : (Lit.int .u32 a0_3).wf = true) (w0_4 : (Lit.int .i64 a0_4).wf = true) (w0_5 : BRow .u8 w a0_5 len0_5 cap0_5 z0_5) (_ : (Lit.int .i64 a1).wf = true) (w2 : (Lit.int .u32 a2).wf = true) (w3 : BRow .i64 w a3 len3 cap3 z3) :
    Calls Try.prog 8 #[.agg #[.int .i64 a0_0, .int .u32 a0_1, .int .u32 a0_2, .int .u32 a0_3, .int .i64 a0_4, .slice a0_5 len0_5 cap0_5], .int .i64 a1, .int .u32 a2, .slice a3 len3 cap3] w fun e w' => e = .returned (.bool true) ∧ Below w.heap.size w w' := by
  obtain ⟨c, rfl, hc⟩ := nat32V w0_1
  obtain ⟨s, rfl, hs⟩ := nat32V w0_2
  obtain ⟨n, rfl, hn⟩ := nat32V w0_3
  obtain ⟨x, rfl, hx⟩ := nat32V w2
  by_cases h : len0_5 ≤ 1000 ∧ len3 ≤ 1000
  · by_cases hE : LW a0_0 c s n a0_4 len0_5 len0_5 = 0
    · obtain ⟨hk, _, _, _, hf⟩ := LW_zero hE
      obtain ⟨K, rfl⟩ : ∃ K : Nat, a0_0 = K := ⟨a0_0.toNat, by omega⟩
      obtain ⟨F, rfl⟩ : ∃ F : Nat, a0_4 = F := ⟨a0_4.toNat, by omega⟩
      exact unitBursts_good K c s n F a0_5 len0_5 cap0_5 _ a1 x a3 len3 cap3 _ w w0_5.row8 hx hc hs hn h.2 hE w3.ints
    · exact unitBursts_bad a0_0 c s n a0_4 a0_5 len0_5 cap0_5 a1 x a3 len3 cap3 w h.1 h.2 hE
  · exact unitBursts_long a0_0 c s n a0_4 a0_5 len0_5 cap0_5 a1 x a3 len3 cap3 w (by omega)

end Go.Proofs.Ythddomhlkljlkaa
