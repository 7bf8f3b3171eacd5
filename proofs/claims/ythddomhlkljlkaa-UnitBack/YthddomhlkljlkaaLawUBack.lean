/- The walk of the statement UnitBack. -/
import Derived.Test.YthddomhlkljlkaaLaw04
import Derived.Test.YthddomhlkljlkaaUSame
import Derived.Test.YthddomhlkljlkaaAgg
namespace Go.Proofs.Ythddomhlkljlkaa
open Go.RowKit
theorem nat32U {x : Int} (h : (Lit.int .u32 x).wf = true) : ∃ n : Nat, x = n ∧ n < 4294967296 := by
  have := bounds_u32 h
  exact ⟨x.toNat, by omega, by omega⟩
set_option maxRecDepth 100000 in
set_option maxHeartbeats 1000000 in
theorem unitBack_long (k : Int) (c s n : Nat) (f : Int) (a : Option Addr) (len cap : Nat) (bs : Nat → Nat) (w : World) (hr : Row8 w a len cap bs) (h : 1000 < len) :
    Calls Try.prog 6 #[.agg #[.int .i64 k, .int .u32 c, .int .u32 s, .int .u32 n, .int .i64 f, .slice a len cap]] w fun e w' => e = .returned (.bool true) ∧ Below w.heap.size w w' := by
  have hA : Below w.heap.size w (w.alloc (.cells #[.int .i64 k, .int .u32 c, .int .u32 s, .int .u32 n, .int .i64 f, .slice a len cap] 29)) := (Below.refl _ _).alloc (Nat.le_refl _) _
  have hAs : w.heap.size < (w.alloc (.cells #[.int .i64 k, .int .u32 c, .int .u32 s, .int .u32 n, .int .i64 f, .slice a len cap] 29)).heap.size := by simp
  have hrA := hr.below hA
  have hX := box_new w k c s n f (.slice a len cap)
  have hw := awake4 (w.alloc (.cells #[.int .i64 k, .int .u32 c, .int .u32 s, .int .u32 n, .int .i64 f, .slice a len cap] 29))
  have q : decide ((1000 : Int) < (len : Int)) = true := by simp; omega
  clear hrA hr
  go_enter Try.func6, Try.ntmps6
  go_wp2_with fail
  generalize w.alloc (.cells #[.int .i64 k, .int .u32 c, .int .u32 s, .int .u32 n, .int .i64 f, .slice a len cap] 29) = wa at *
  refine hw.mono ?_
  rintro e w1 ⟨rfl, hb1⟩
  have x5 := (hX w1 hb1).c5
  have hb2 : Below w.heap.size w w1 := hA.trans (hb1.mono (Nat.le_of_lt hAs))
  clear hw hX
  go_wp2_with fail
  go_ret
  exact ⟨rfl, hb2⟩
set_option maxRecDepth 100000 in
set_option maxHeartbeats 1000000 in
theorem unitBack_bad (k : Int) (c s n : Nat) (f : Int) (a : Option Addr) (len cap : Nat) (bs : Nat → Nat) (w : World) (hr : Row8 w a len cap bs) (h : len ≤ 1000) (hE : LW k c s n f len len ≠ 0) :
    Calls Try.prog 6 #[.agg #[.int .i64 k, .int .u32 c, .int .u32 s, .int .u32 n, .int .i64 f, .slice a len cap]] w fun e w' => e = .returned (.bool true) ∧ Below w.heap.size w w' := by
  have hA : Below w.heap.size w (w.alloc (.cells #[.int .i64 k, .int .u32 c, .int .u32 s, .int .u32 n, .int .i64 f, .slice a len cap] 29)) := (Below.refl _ _).alloc (Nat.le_refl _) _
  have hAs : w.heap.size < (w.alloc (.cells #[.int .i64 k, .int .u32 c, .int .u32 s, .int .u32 n, .int .i64 f, .slice a len cap] 29)).heap.size := by simp
  have hrA := hr.below hA
  have hX := box_new w k c s n f (.slice a len cap)
  have hw := awake4 (w.alloc (.cells #[.int .i64 k, .int .u32 c, .int .u32 s, .int .u32 n, .int .i64 f, .slice a len cap] 29))
  have q : decide ((1000 : Int) < (len : Int)) = false := by simp; omega
  have hL := fun a' c' w => lawful_any k c s n f a' len c' w
  have hB := fun a' c' w => encode_bad k c s n f a' len c' w hE
  generalize LW k c s n f len len = E at *
  have qE : (E == 0) = false := by simpa using hE
  clear hr
  go_enter Try.func6, Try.ntmps6
  go_wp2_with fail
  generalize w.alloc (.cells #[.int .i64 k, .int .u32 c, .int .u32 s, .int .u32 n, .int .i64 f, .slice a len cap] 29) = wa at *
  refine hw.mono ?_
  rintro e w1 ⟨rfl, hb1⟩
  obtain ⟨x0, x1, x2, x3, x4, x5⟩ := hX w1 hb1
  have hs1 := hb1.size
  have hC := copied_any k c s n f a len cap bs w1 (hrA.below hb1) (by omega)
  clear hw
  go_wp2_with fail
  refine hC.mono ?_
  rintro e w2 ⟨a2, c2, rfl, H2⟩
  have hb2 := below_all hb1 hs1 H2.out.2
  have hs2 := hb2.size
  clear hC H2
  go_wp2_with fail
  refine (hB a2 c2 w2).mono ?_
  rintro e w3 ⟨rfl, hb3'⟩
  have hb3 := below_all hb2 hs2 hb3'
  have hs3 := hb3.size
  obtain ⟨y0, y1, y2, y3, y4, y5⟩ := hX w3 hb3
  have hC := copied_any k c s n f a len cap bs w3 (hrA.below hb3) (by omega)
  clear hb3' x0 x1 x2 x3 x4 x5
  go_wp2_with fail
  refine hC.mono ?_
  rintro e w4 ⟨a4, c4, rfl, H4⟩
  have hb4 := below_all hb3 hs3 H4.out.2
  have hs4 := hb4.size
  clear hC H4
  go_wp2_with fail
  refine (hL a4 c4 w4).mono ?_
  rintro e w5 ⟨rfl, hb5'⟩
  have hb5 := below_all hb4 hs4 hb5'
  have hb6 : Below w.heap.size w w5 := hA.trans (hb5.mono (Nat.le_of_lt hAs))
  clear hL hB hX
  go_wp2_with fail
  go_ret
  exact ⟨rfl, hb6⟩
set_option maxRecDepth 100000 in
set_option maxHeartbeats 1000000 in
theorem unitBack_good (K c s n F : Nat) (a : Option Addr) (len cap : Nat) (bs : Nat → Nat) (w : World) (hr : Row8 w a len cap bs) (hc : c < 4294967296) (hs : s < 4294967296) (hn : n < 4294967296) (hE : LW K c s n F len len = 0) :
    Calls Try.prog 6 #[.agg #[.int .i64 K, .int .u32 c, .int .u32 s, .int .u32 n, .int .i64 F, .slice a len cap]] w fun e w' => e = .returned (.bool true) ∧ Below w.heap.size w w' := by
  have hA : Below w.heap.size w (w.alloc (.cells #[.int .i64 K, .int .u32 c, .int .u32 s, .int .u32 n, .int .i64 F, .slice a len cap] 29)) := (Below.refl _ _).alloc (Nat.le_refl _) _
  have hAs : w.heap.size < (w.alloc (.cells #[.int .i64 K, .int .u32 c, .int .u32 s, .int .u32 n, .int .i64 F, .slice a len cap] 29)).heap.size := by simp
  have hrA := hr.below hA
  have hX := box_new w K c s n F (.slice a len cap)
  have hw := awake4 (w.alloc (.cells #[.int .i64 K, .int .u32 c, .int .u32 s, .int .u32 n, .int .i64 F, .slice a len cap] 29))
  obtain ⟨_, _, _, hll, hff⟩ := LW_zero hE
  have hl8 : len ≤ 8 := by omega
  have q : decide ((1000 : Int) < (len : Int)) = false := by simp; omega
  obtain ⟨d0, d1, d2, d3, d4, d5, d6⟩ := DE_back K c s n F len bs hc hs hn hl8 hE
  have hkk := (LW_zero hE).1
  have hby : ∀ i, i < 15 + len + 4 → PM.sl (fr K c s n F len bs) (15 + len) i < 256 := PM.ct_lt (k := 4) (fr_lt (by omega) (by omega) (by omega) hr.byte) (fun i _ => PM.w4_lt _ i)
  have hEn := fun a' c' w hr => encode_good K c s n F a' len c' bs w hr hE
  have hDe := fun a' c' w hr => decode_ok a' (15 + len + 4) c' (PM.sl (fr K c s n F len bs) (15 + len)) w hr d0
  rw [d1, d2, d3, d4, d5, show 15 + len + 4 - 19 = len by omega] at hDe
  have HD : Hid (CB (fun i => PM.sl (fr K c s n F len bs) (15 + len) (15 + i)) len = CB bs len) := CB_congr _ _ len d6
  rw [HD.out] at hDe
  have HY : Hid (_) := hby
  obtain ⟨N, hN⟩ : ∃ N, N = 15 + len + 4 := ⟨_, rfl⟩
  rw [← hN] at hEn hDe HY
  have q1 : decide ((19 : Int) ≤ (N : Int)) = true := by simp; omega
  have q2 : decide ((N : Int) ≤ 27) = true := by simp; omega
  generalize PM.sl (fr K c s n F len bs) (15 + len) = SL at *
  have hb0 := hr.byte
  clear hr hE d0 d1 d2 d3 d4 d5 d6 hby hN HD hll hff hkk
  go_enter Try.func6, Try.ntmps6
  go_wp2_with fail
  generalize w.alloc (.cells #[.int .i64 K, .int .u32 c, .int .u32 s, .int .u32 n, .int .i64 F, .slice a len cap] 29) = wa at *
  refine hw.mono ?_
  rintro e w1 ⟨rfl, hb1⟩
  obtain ⟨x0, x1, x2, x3, x4, x5⟩ := hX w1 hb1
  have hs1 := hb1.size
  have hC := copied_any K c s n F a len cap bs w1 (hrA.below hb1) (by omega)
  clear hw
  go_wp2_with fail
  refine hC.mono ?_
  rintro e w2 ⟨a2, c2, rfl, H2⟩
  have hb2 := below_all hb1 hs1 H2.out.2
  have hs2 := hb2.size
  have hEn2 := hEn a2 c2 w2 H2.out.1
  clear hC H2
  go_wp2_with fail
  refine hEn2.mono ?_
  rintro e w3 ⟨v3, rfl, H3⟩
  have hb3 := below_all hb2 hs2 H3.out.2
  have hs3 := hb3.size
  obtain ⟨a3, c3, rfl, R3⟩ := own_row8 H3.out.1 HY.out
  have hDe3 := hDe a3 c3 w3 R3
  clear hEn hEn2 hDe H3 R3 HY x0 x1 x2 x3 x4 x5
  go_wp2_with fail
  refine hDe3.mono ?_
  rintro e w4 ⟨a4, c4, rfl, H4⟩
  have hb4 := below_all hb3 hs3 H4.out.2
  have hs4 := hb4.size
  have hb5 := hb4.alloc hs4 (.cells #[.int .i64 K, .int .u32 c, .int .u32 s, .int .u32 n, .int .i64 F, .slice a4 len c4] 29)
  have hb5' : Below w4.heap.size w4 (w4.alloc (.cells #[.int .i64 K, .int .u32 c, .int .u32 s, .int .u32 n, .int .i64 F, .slice a4 len c4] 29)) := (Below.refl _ _).alloc (Nat.le_refl _) _
  obtain ⟨y0, y1, y2, y3, y4, y5⟩ := hX _ hb5
  obtain ⟨a5, c5, e5, R5⟩ := own_row8 H4.out.1 hb0
  simp only [Value.slice.injEq, true_and] at e5
  obtain ⟨rfl, rfl⟩ := e5
  have hS := same_any K c s n F a a4 len cap c4 bs _ (hrA.below hb5) (R5.below hb5')
  have hs5 := hb5.size
  clear hDe3 H4 hX R5 hb5' hrA
  go_wp2_with fail
  refine hS.mono ?_
  rintro e w6 ⟨rfl, hb6⟩
  have hb7 := below_all hb5 hs5 hb6
  have hb8 : Below w.heap.size w w6 := hA.trans (hb7.mono (Nat.le_of_lt hAs))
  clear hS y0 y1 y2 y3 y4 y5
  go_wp2_with fail
  go_ret
  exact ⟨rfl, hb8⟩
theorem unitBack_walk (a0_0 : Int) (a0_1 : Int) (a0_2 : Int) (a0_3 : Int) (a0_4 : Int) (a0_5 : Option Addr) (len0_5 cap0_5 : Nat) (z0_5 : List Int) (w : World) (_ : (Lit.int .i64 a0_0).wf = true) (w0_1 : (Lit.int .u32 a0_1).wf = true) (w0_2 : (Lit.int .u32 a0_2).wf = true) (w0_3 : (Lit.int .u32 a0_3).wf = true) (_ : (Lit.int .i64 a0_4).wf = true) (w0_5 : BRow .u8 w a0_5 len0_5 cap0_5 z0_5) :
    Calls Try.prog 6 #[.agg #[.int .i64 a0_0, .int .u32 a0_1, .int .u32 a0_2, .int .u32 a0_3, .int .i64 a0_4, .slice a0_5 len0_5 cap0_5]] w fun e w' => e = .returned (.bool true) ∧ Below w.heap.size w w' := by
  obtain ⟨c, rfl, hc⟩ := nat32U w0_1
  obtain ⟨s, rfl, hs⟩ := nat32U w0_2
  obtain ⟨n, rfl, hn⟩ := nat32U w0_3
  by_cases h : len0_5 ≤ 1000
  · by_cases hE : LW a0_0 c s n a0_4 len0_5 len0_5 = 0
    · have h1 := (LW_zero hE).1
      have h2 := (LW_zero hE).2.2.2.2
      obtain ⟨K, rfl⟩ : ∃ K : Nat, a0_0 = K := ⟨a0_0.toNat, by omega⟩
      obtain ⟨F, rfl⟩ : ∃ F : Nat, a0_4 = F := ⟨a0_4.toNat, by omega⟩
      exact unitBack_good K c s n F a0_5 len0_5 cap0_5 _ w w0_5.row8 hc hs hn hE
    · exact unitBack_bad a0_0 c s n a0_4 a0_5 len0_5 cap0_5 _ w w0_5.row8 h hE
  · exact unitBack_long a0_0 c s n a0_4 a0_5 len0_5 cap0_5 _ w w0_5.row8 (by omega)

end Go.Proofs.Ythddomhlkljlkaa
