/- The walk of the statement UnitEncodes. -/
import Derived.Test.YthddomhlkljlkaaLaw04
import Derived.Test.YthddomhlkljlkaaURef
import Derived.Test.YthddomhlkljlkaaAgg
namespace Go.Proofs.Ythddomhlkljlkaa
open Go.RowKit
theorem nat32V {x : Int} (h : (Lit.int .u32 x).wf = true) : ∃ n : Nat, x = n ∧ n < 4294967296 := by
  have := bounds_u32 h
  exact ⟨x.toNat, by omega, by omega⟩
theorem row_nilV (w : World) (bs : Nat → Nat) : Row8 w none 0 0 bs := ⟨fun i hi => by omega, fun _ => ⟨rfl, rfl⟩, (fun x hx => by cases hx), Nat.le_refl _⟩
set_option maxRecDepth 100000 in
set_option maxHeartbeats 1000000 in
theorem unitEncodes_long (k : Int) (c s n : Nat) (f : Int) (a : Option Addr) (len cap : Nat) (w : World) (h : 1000 < len) :
    Calls Try.prog 4 #[.agg #[.int .i64 k, .int .u32 c, .int .u32 s, .int .u32 n, .int .i64 f, .slice a len cap]] w fun e w' => e = .returned (.bool true) ∧ Below w.heap.size w w' := by
  have hA : Below w.heap.size w (w.alloc (.cells #[.int .i64 k, .int .u32 c, .int .u32 s, .int .u32 n, .int .i64 f, .slice a len cap] 29)) := (Below.refl _ _).alloc (Nat.le_refl _) _
  have hAs : w.heap.size < (w.alloc (.cells #[.int .i64 k, .int .u32 c, .int .u32 s, .int .u32 n, .int .i64 f, .slice a len cap] 29)).heap.size := by simp
  have hX := box_new w k c s n f (.slice a len cap)
  have hw := awake4 (w.alloc (.cells #[.int .i64 k, .int .u32 c, .int .u32 s, .int .u32 n, .int .i64 f, .slice a len cap] 29))
  have q : decide ((1000 : Int) < (len : Int)) = true := by simp; omega
  go_enter Try.func4, Try.ntmps4
  go_wp2_with fail
  generalize w.alloc (.cells #[.int .i64 k, .int .u32 c, .int .u32 s, .int .u32 n, .int .i64 f, .slice a len cap] 29) = wa at *
  refine hw.mono ?_
  rintro e w1 ⟨rfl, hb1⟩
  have x5 := (hX w1 hb1).c5
  have hb2 : Below w.heap.size w w1 := hA.trans (hb1.mono (Nat.le_of_lt hAs))
  clear hw hX
  go_wp2_with fail
  go_ret
  exact ⟨rfl, hb2⟩
set_option maxRecDepth 100000 in
set_option maxHeartbeats 1000000 in
theorem unitEncodes_bad (k : Int) (c s n : Nat) (f : Int) (a : Option Addr) (len cap : Nat) (bs : Nat → Nat) (w : World) (hr : Row8 w a len cap bs) (h : len ≤ 1000) (hE : LW k c s n f len len ≠ 0) :
    Calls Try.prog 4 #[.agg #[.int .i64 k, .int .u32 c, .int .u32 s, .int .u32 n, .int .i64 f, .slice a len cap]] w fun e w' => e = .returned (.bool true) ∧ Below w.heap.size w w' := by
  have hA : Below w.heap.size w (w.alloc (.cells #[.int .i64 k, .int .u32 c, .int .u32 s, .int .u32 n, .int .i64 f, .slice a len cap] 29)) := (Below.refl _ _).alloc (Nat.le_refl _) _
  have hAs : w.heap.size < (w.alloc (.cells #[.int .i64 k, .int .u32 c, .int .u32 s, .int .u32 n, .int .i64 f, .slice a len cap] 29)).heap.size := by simp
  have hrA := hr.below hA
  have hX := box_new w k c s n f (.slice a len cap)
  have hw := awake4 (w.alloc (.cells #[.int .i64 k, .int .u32 c, .int .u32 s, .int .u32 n, .int .i64 f, .slice a len cap] 29))
  have q : decide ((1000 : Int) < (len : Int)) = false := by simp; omega
  have hLa := fun a' c' w => lawful_any k c s n f a' len c' w
  have hEn := fun a' c' w (_ : Row8 w a' len c' bs) => encode_bad k c s n f a' len c' w hE
  have hRe := fun w (_ : Row8 w a len cap bs) => refEncode_bad k c s n f a len cap w hE
  have hSi := fun a' c' w => size_bad k c s n f a' len c' w hE
  generalize LW k c s n f len len = E at *
  clear hr hE
  go_enter Try.func4, Try.ntmps4
  go_wp2_with fail
  generalize w.alloc (.cells #[.int .i64 k, .int .u32 c, .int .u32 s, .int .u32 n, .int .i64 f, .slice a len cap] 29) = wa at *
  refine hw.mono ?_
  rintro e w1 ⟨rfl, hb1⟩
  obtain ⟨x0, x1, x2, x3, x4, x5⟩ := hX w1 hb1
  have hs1 := hb1.size
  have hC := copied_any k c s n f a len cap bs w1 (hrA.below hb1) (by omega)
  clear hw
  go_wp2_with fail
  refine hC.mono ?_
  rintro e w2 ⟨a2, c2, rfl, H2⟩
  have hb2 := below_all hb1 hs1 H2.out.2
  have hs2 := hb2.size
  have hE2 := hEn a2 c2 w2 H2.out.1
  clear hC H2 hEn x0 x1 x2 x3 x4 x5
  go_wp2_with fail
  refine hE2.mono ?_
  rintro e w3 ⟨rfl, hb3'⟩
  have hb3 := below_all hb2 hs2 hb3'
  have hs3 := hb3.size
  obtain ⟨x0, x1, x2, x3, x4, x5⟩ := hX w3 hb3
  have hR3 := hRe w3 (hrA.below hb3)
  clear hE2 hRe
  go_wp2_with fail
  refine hR3.mono ?_
  rintro e w4 ⟨rfl, hb4'⟩
  have hb4 := below_all hb3 hs3 hb4'
  have hs4 := hb4.size
  obtain ⟨y0, y1, y2, y3, y4, y5⟩ := hX w4 hb4
  have hC := copied_any k c s n f a len cap bs w4 (hrA.below hb4) (by omega)
  clear hR3 x0 x1 x2 x3 x4 x5
  go_wp2_with fail
  refine hC.mono ?_
  rintro e w5 ⟨a5, c5, rfl, H5⟩
  have hb5 := below_all hb4 hs4 H5.out.2
  have hs5 := hb5.size
  have hSz := hSi a5 c5 w5
  clear hC H5 y0 y1 y2 y3 y4 y5 hSi
  go_wp2_with fail
  refine hSz.mono ?_
  rintro e w6 ⟨rfl, hb6'⟩
  have hb6 := below_all hb5 hs5 hb6'
  have hs6 := hb6.size
  obtain ⟨x0, x1, x2, x3, x4, x5⟩ := hX w6 hb6
  have hc1 := conv_any none 0 0 bs w6 (row_nilV _ _)
  generalize BA bs 0 = X at *
  have hC := copied_any k c s n f a len cap bs w6 (hrA.below hb6) (by omega)
  clear hSz hb6'
  go_wp2_with fail
  refine hC.mono ?_
  rintro e w7 ⟨a7, c7, rfl, H7⟩
  have hb7 := below_all hb6 hs6 H7.out.2
  have hs7 := hb7.size
  have hLl := hLa a7 c7 w7
  clear hC H7 hLa x0 x1 x2 x3 x4 x5 hc1
  go_wp2_with fail
  refine hLl.mono ?_
  rintro e w8 ⟨rfl, hb8'⟩
  have hb8 := below_all hb7 hs7 hb8'
  have hb9 : Below w.heap.size w w8 := hA.trans (hb8.mono (Nat.le_of_lt hAs))
  clear hLl hX hb8 hb8' hrA
  go_wp2_with fail
  go_ret
  exact ⟨rfl, hb9⟩
set_option maxRecDepth 100000 in
set_option maxHeartbeats 1000000 in
theorem unitEncodes_good (K c s n F : Nat) (a : Option Addr) (len cap : Nat) (bs : Nat → Nat) (w : World) (hr : Row8 w a len cap bs) (hc : c < 4294967296) (hs : s < 4294967296) (hn : n < 4294967296) (hE : LW K c s n F len len = 0) :
    Calls Try.prog 4 #[.agg #[.int .i64 K, .int .u32 c, .int .u32 s, .int .u32 n, .int .i64 F, .slice a len cap]] w fun e w' => e = .returned (.bool true) ∧ Below w.heap.size w w' := by
  have hA : Below w.heap.size w (w.alloc (.cells #[.int .i64 K, .int .u32 c, .int .u32 s, .int .u32 n, .int .i64 F, .slice a len cap] 29)) := (Below.refl _ _).alloc (Nat.le_refl _) _
  have hAs : w.heap.size < (w.alloc (.cells #[.int .i64 K, .int .u32 c, .int .u32 s, .int .u32 n, .int .i64 F, .slice a len cap] 29)).heap.size := by simp
  have hrA := hr.below hA
  have hX := box_new w K c s n F (.slice a len cap)
  have hw := awake4 (w.alloc (.cells #[.int .i64 K, .int .u32 c, .int .u32 s, .int .u32 n, .int .i64 F, .slice a len cap] 29))
  obtain ⟨hkk, _, _, hll, hff⟩ := LW_zero hE
  have hl8 : len ≤ 8 := by omega
  have q : decide ((1000 : Int) < (len : Int)) = false := by simp; omega
  have hby : ∀ i, i < 15 + len + 4 → PM.sl (fr K c s n F len bs) (15 + len) i < 256 := PM.ct_lt (k := 4) (fr_lt (by omega) (by omega) (by omega) hr.byte) (fun i _ => PM.w4_lt _ i)
  have hLa := fun a' c' w => lawful_any K c s n F a' len c' w
  rw [hE] at hLa
  have hEn := fun a' c' w hr => encode_good K c s n F a' len c' bs w hr hE
  have hRe := fun w hr => refEncode_good K c s n F a len cap bs w hr hc hs hn hE
  have hSi := fun a' c' w => size_good K c s n F a' len c' w hE
  have HY : Hid (_) := hby
  obtain ⟨N, hN⟩ : ∃ N, N = 15 + len + 4 := ⟨_, rfl⟩
  rw [← hN] at hEn hRe hSi HY
  generalize PM.sl (fr K c s n F len bs) (15 + len) = SL at *
  clear hr hE hby hN hll hff hkk
  go_enter Try.func4, Try.ntmps4
  go_wp2_with fail
  generalize w.alloc (.cells #[.int .i64 K, .int .u32 c, .int .u32 s, .int .u32 n, .int .i64 F, .slice a len cap] 29) = wa at *
  refine hw.mono ?_
  rintro e w1 ⟨rfl, hb1⟩
  obtain ⟨x0, x1, x2, x3, x4, x5⟩ := hX w1 hb1
  have hs1 := hb1.size
  have hC := copied_any K c s n F a len cap bs w1 (hrA.below hb1) (by omega)
  clear hw
  go_wp2_with fail
  refine hC.mono ?_
  rintro e w2 ⟨a2, c2, rfl, H2⟩
  have hb2 := below_all hb1 hs1 H2.out.2
  have hs2 := hb2.size
  have hE2 := hEn a2 c2 w2 H2.out.1
  clear hC H2 hEn x0 x1 x2 x3 x4 x5
  go_wp2_with fail
  refine hE2.mono ?_
  rintro e w3 ⟨v3, rfl, H3⟩
  obtain ⟨a3, c3, rfl, R3⟩ := own_row8 H3.out.1 HY.out
  have hb3 := below_all hb2 hs2 H3.out.2
  have hs3 := hb3.size
  obtain ⟨x0, x1, x2, x3, x4, x5⟩ := hX w3 hb3
  have hR3 := hRe w3 (hrA.below hb3)
  clear hE2 hRe
  go_wp2_with fail
  refine hR3.mono ?_
  rintro e w4 ⟨v4, rfl, H4⟩
  obtain ⟨a4, c4, rfl, R4⟩ := own_row8 H4.out.1 HY.out
  have hb4 := below_all hb3 hs3 H4.out.2
  have hs4 := hb4.size
  have R34 := R3.below H4.out.2
  clear H3 H4 R3
  obtain ⟨y0, y1, y2, y3, y4, y5⟩ := hX w4 hb4
  have hC := copied_any K c s n F a len cap bs w4 (hrA.below hb4) (by omega)
  clear hR3 x0 x1 x2 x3 x4 x5
  go_wp2_with fail
  refine hC.mono ?_
  rintro e w5 ⟨a5, c5, rfl, H5⟩
  have hb5 := below_all hb4 hs4 H5.out.2
  have hs5 := hb5.size
  have R35 := R34.below H5.out.2
  have R45 := R4.below H5.out.2
  clear R34 R4
  have hSz := hSi a5 c5 w5
  clear hC H5 y0 y1 y2 y3 y4 y5 hSi
  go_wp2_with fail
  refine hSz.mono ?_
  rintro e w6 ⟨rfl, hb6'⟩
  have hb6 := below_all hb5 hs5 hb6'
  have hs6 := hb6.size
  obtain ⟨x0, x1, x2, x3, x4, x5⟩ := hX w6 hb6
  have hc1 := conv_any a3 N c3 SL w6 (R35.below hb6')
  have hc2 := conv_any a4 N c4 SL w6 (R45.below hb6')
  generalize BA SL N = X at *
  clear R35 R45
  have hC := copied_any K c s n F a len cap bs w6 (hrA.below hb6) (by omega)
  clear hSz hb6'
  go_wp2_with fail
  refine hC.mono ?_
  rintro e w7 ⟨a7, c7, rfl, H7⟩
  have hb7 := below_all hb6 hs6 H7.out.2
  have hs7 := hb7.size
  have hLl := hLa a7 c7 w7
  clear hC H7 hLa x0 x1 x2 x3 x4 x5 hc1
  go_wp2_with fail
  refine hLl.mono ?_
  rintro e w8 ⟨rfl, hb8'⟩
  have hb8 := below_all hb7 hs7 hb8'
  have hb9 : Below w.heap.size w w8 := hA.trans (hb8.mono (Nat.le_of_lt hAs))
  clear hLl hX hb8 hb8' hrA
  go_wp2_with fail
  go_ret
  exact ⟨rfl, hb9⟩
theorem unitEncodes_walk (a0_0 : Int) (a0_1 : Int) (a0_2 : Int) (a0_3 : Int) (a0_4 : Int) (a0_5 : Option Addr) (len0_5 cap0_5 : Nat) (z0_5 : List Int) (w : World) (_ : (Lit.int .i64 a0_0).wf = true) (w0_1 : (Lit.int .u32 a0_1).wf = true) (w0_2 : (Lit.int .u32 a0_2).wf = true) (w0_3 : (Lit.int .u32 a0_3).wf = true) (_ : (Lit.int .i64 a0_4).wf = true) (w0_5 : BRow .u8 w a0_5 len0_5 cap0_5 z0_5) :
    Calls Try.prog 4 #[.agg #[.int .i64 a0_0, .int .u32 a0_1, .int .u32 a0_2, .int .u32 a0_3, .int .i64 a0_4, .slice a0_5 len0_5 cap0_5]] w fun e w' => e = .returned (.bool true) ∧ Below w.heap.size w w' := by
  obtain ⟨c, rfl, hc⟩ := nat32V w0_1
  obtain ⟨s, rfl, hs⟩ := nat32V w0_2
  obtain ⟨n, rfl, hn⟩ := nat32V w0_3
  by_cases h : len0_5 ≤ 1000
  · by_cases hE : LW a0_0 c s n a0_4 len0_5 len0_5 = 0
    · have h1 := (LW_zero hE).1
      have h2 := (LW_zero hE).2.2.2.2
      obtain ⟨K, rfl⟩ : ∃ K : Nat, a0_0 = K := ⟨a0_0.toNat, by omega⟩
      obtain ⟨F, rfl⟩ : ∃ F : Nat, a0_4 = F := ⟨a0_4.toNat, by omega⟩
      exact unitEncodes_good K c s n F a0_5 len0_5 cap0_5 _ w w0_5.row8 hc hs hn hE
    · exact unitEncodes_bad a0_0 c s n a0_4 a0_5 len0_5 cap0_5 _ w w0_5.row8 h hE
  · exact unitEncodes_long a0_0 c s n a0_4 a0_5 len0_5 cap0_5 w (by omega)

end Go.Proofs.Ythddomhlkljlkaa
