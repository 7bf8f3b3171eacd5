/- Part 9 of the texts on which the proofs of layer 13 rest: contracts of Go functions. -/
import Derived.Test.YtndjepeolamedaaGreatPkA07
namespace Go.Proofs.YtndjepeolamedaaGreat
set_option maxRecDepth 100000
open Go.RowKit
set_option maxRecDepth 100000 in
set_option maxHeartbeats 4000000 in
theorem rlaw_any (c : Nat) (o i t : Int) (n : Nat) (w : World) (D : Bool) (hD : decide (okP c o i t n) = D) :
    Calls Tryz.prog 53 #[.agg #[.int .u32 c, .int .i64 o, .int .i64 i, .int .i64 t, .int .u32 n]] w fun e w' => e = .returned (.bool D) ∧ Below w.heap.size w w' := by
  have hb : Below w.heap.size w (w.alloc (.cells #[.int .u32 c, .int .i64 o, .int .i64 i, .int .i64 t, .int .u32 n] 36)) := (Below.refl _ _).alloc (Nat.le_refl _) _
  have HB : Hid (_) := hb
  have HD : Hid (_) := hD
  clear hD hb
  by_cases h0 : (0 : Int) < (c : Int)
  rotate_left
  · have q0 : decide ((0 : Int) < (c : Int)) = false := decide_eq_false h0
    have r0 : c = 0 := by omega
    subst r0
    have hD' : D = false := by rw [← HD.out]; exact decide_eq_false (fun h => by unfold okP at h; omega)
    subst hD'
    clear HD h0
    go_enter Tryz.func53, Tryz.ntmps53
    go_wp2_with fail
    go_ret
    exact ⟨rfl, HB.out⟩
  have q0 : decide ((0 : Int) < (c : Int)) = true := decide_eq_true h0
  have r0 : 0 < c := by omega
  by_cases h1 : 1 ≤ o
  rotate_left
  · have q1 : decide (1 ≤ o) = false := decide_eq_false h1
    have hD' : D = false := by rw [← HD.out]; exact decide_eq_false (fun h => by unfold okP at h; omega)
    subst hD'
    clear HD h0 h1
    go_enter Tryz.func53, Tryz.ntmps53
    go_wp2_with fail
    go_ret
    exact ⟨rfl, HB.out⟩
  have q1 : decide (1 ≤ o) = true := decide_eq_true h1
  by_cases h2 : o ≤ 8
  rotate_left
  · have q2 : decide (o ≤ 8) = false := decide_eq_false h2
    have hD' : D = false := by rw [← HD.out]; exact decide_eq_false (fun h => by unfold okP at h; omega)
    subst hD'
    clear HD h0 h1 h2
    go_enter Tryz.func53, Tryz.ntmps53
    go_wp2_with fail
    go_ret
    exact ⟨rfl, HB.out⟩
  have q2 : decide (o ≤ 8) = true := decide_eq_true h2
  by_cases h3 : 1 ≤ i
  rotate_left
  · have q3 : decide (1 ≤ i) = false := decide_eq_false h3
    have hD' : D = false := by rw [← HD.out]; exact decide_eq_false (fun h => by unfold okP at h; omega)
    subst hD'
    clear HD h0 h1 h2 h3
    go_enter Tryz.func53, Tryz.ntmps53
    go_wp2_with fail
    go_ret
    exact ⟨rfl, HB.out⟩
  have q3 : decide (1 ≤ i) = true := decide_eq_true h3
  by_cases h4 : i ≤ 8
  rotate_left
  · have q4 : decide (i ≤ 8) = false := decide_eq_false h4
    have hD' : D = false := by rw [← HD.out]; exact decide_eq_false (fun h => by unfold okP at h; omega)
    subst hD'
    clear HD h0 h1 h2 h3 h4
    go_enter Tryz.func53, Tryz.ntmps53
    go_wp2_with fail
    go_ret
    exact ⟨rfl, HB.out⟩
  have q4 : decide (i ≤ 8) = true := decide_eq_true h4
  by_cases h5 : 1 ≤ t
  rotate_left
  · have q5 : decide (1 ≤ t) = false := decide_eq_false h5
    have hD' : D = false := by rw [← HD.out]; exact decide_eq_false (fun h => by unfold okP at h; omega)
    subst hD'
    clear HD h0 h1 h2 h3 h4 h5
    go_enter Tryz.func53, Tryz.ntmps53
    go_wp2_with fail
    go_ret
    exact ⟨rfl, HB.out⟩
  have q5 : decide (1 ≤ t) = true := decide_eq_true h5
  by_cases h6 : t ≤ 1048576
  rotate_left
  · have q6 : decide (t ≤ 1048576) = false := decide_eq_false h6
    have hD' : D = false := by rw [← HD.out]; exact decide_eq_false (fun h => by unfold okP at h; omega)
    subst hD'
    clear HD h0 h1 h2 h3 h4 h5 h6
    go_enter Tryz.func53, Tryz.ntmps53
    go_wp2_with fail
    go_ret
    exact ⟨rfl, HB.out⟩
  have q6 : decide (t ≤ 1048576) = true := decide_eq_true h6
  by_cases h7 : (2 : Int) ≤ (n : Int)
  rotate_left
  · have q7 : decide ((2 : Int) ≤ (n : Int)) = false := decide_eq_false h7
    have hD' : D = false := by rw [← HD.out]; exact decide_eq_false (fun h => by unfold okP at h; omega)
    subst hD'
    clear HD h0 h1 h2 h3 h4 h5 h6 h7
    go_enter Tryz.func53, Tryz.ntmps53
    go_wp2_with fail
    go_ret
    exact ⟨rfl, HB.out⟩
  have q7 : decide ((2 : Int) ≤ (n : Int)) = true := decide_eq_true h7
  have hD' : D = true := by rw [← HD.out]; exact decide_eq_true (by unfold okP; omega)
  subst hD'
  clear HD h0 h1 h2 h3 h4 h5 h6 h7
  go_enter Tryz.func53, Tryz.ntmps53
  go_wp2_with fail
  go_ret
  exact ⟨rfl, HB.out⟩
end Go.Proofs.YtndjepeolamedaaGreat
namespace Go.Proofs.YtndjepeolamedaaGreat
set_option maxRecDepth 100000
open Go.RowKit
set_option maxRecDepth 100000 in
set_option maxHeartbeats 1000000 in
theorem bequal_any (a b : Option Addr) (n ca m cb : Nat) (f g : Nat → Nat) (w : World) (ha : Row8 w a n ca f) (hb : Row8 w b m cb g) (D : Bool) (hD : decide (BA f n = BA g m) = D) :
    Calls Tryz.prog 233 #[.slice a n ca, .slice b m cb] w fun e w' => e = .returned (.bool D) ∧ w' = w := by
  have h1 := conv_any a n ca f w ha
  have h2 := conv_any b m cb g w hb
  rw [bytes_beq] at hD
  generalize BA f n = X at *
  generalize BA g m = Y at *
  clear ha hb
  go_enter Tryz.func233, Tryz.ntmps233
  go_wp2_with fail
  go_ret
  exact ⟨rfl, rfl⟩
set_option maxRecDepth 100000 in
set_option maxHeartbeats 1000000 in
theorem pmatch_good (c O I T n : Nat) (a : Option Addr) (len cap : Nat) (bs : Nat → Nat) (w : World) (hr : Row8 w a len cap bs) (hc : c < 4294967296) (hn : n < 4294967296) (hE : okP c O I T n) (D : Bool) (hD : decide (BA bs len = BA (PM.w4 (PM.K (pe c O I T n) 14)) 4) = D) :
    Calls Tryz.prog 207 #[.agg #[.int .u32 c, .int .i64 O, .int .i64 I, .int .i64 T, .int .u32 n], .slice a len cap] w fun e w' => e = .returned (.tuple #[.bool D, .int .i64 0]) ∧ Below w.heap.size w w' := by
  have hb : Below w.heap.size w (w.alloc (.cells #[.int .u32 c, .int .i64 O, .int .i64 I, .int .i64 T, .int .u32 n] 36)) := (Below.refl _ _).alloc (Nat.le_refl _) _
  have hF := psig_good c O I T n (w.alloc (.cells #[.int .u32 c, .int .i64 O, .int .i64 I, .int .i64 T, .int .u32 n] 36)) hc hn hE
  have hk := PM.K_lt (pe c O I T n) 14
  clear hE
  generalize PM.K (pe c O I T n) 14 = k at *
  go_enter Tryz.func207, Tryz.ntmps207
  go_wp2_with fail
  refine hF.mono ?_
  rintro e w1 ⟨rfl, hb1⟩
  have hb2 := below_all hb hb.size hb1
  clear hb hF hb1
  go_wp2_with fail
  refine (bytes4_any k _ hk).mono ?_
  rintro e w2 ⟨rfl, rfl⟩
  have hb3 := hb2.alloc hb2.size (.cells #[.int .u8 ((k : Int) / 16777216), .int .u8 ((k : Int) / 65536 % 256), .int .u8 ((k : Int) / 256 % 256), .int .u8 ((k : Int) % 256)] 5)
  have hQ := bequal_any a _ len cap 4 4 bs (PM.w4 k) _ (hr.below hb3) (row4P w1 k hk) D hD
  clear hr hb2 hk hD
  go_wp2_with fail
  refine hQ.mono ?_
  rintro e w3 ⟨rfl, rfl⟩
  have HB : Hid (_) := hb3
  clear hb3 hQ
  go_wp2_with fail
  go_ret2
  exact ⟨rfl, HB.out⟩
theorem row2P (w : World) (x y : Nat) (hx : x < 256) (hy : y < 256) : Row8 (w.alloc (.cells #[.int .u8 (x : Int), .int .u8 (y : Int)] 5)) (some ⟨w.heap.size, 0, none⟩) 2 2 (fun i => if i = 0 then x else y) := by
  refine row8_new w _ _ _ 2 (fun i _ => ?_) (fun i hi => ?_)
  · by_cases h : i = 0
    · rw [if_pos h]; exact hx
    · rw [if_neg h]; exact hy
  · rcases (show i = 0 ∨ i = 1 by omega) with rfl | rfl <;> rfl
theorem pe_build (c O I T n k : Nat) (hk : k < 14) : (if k < 10 then (if k < 6 then (if k < 4 then PM.w4 c k else (if k - 4 = 0 then O else I)) else PM.w4 T (k - 6)) else PM.w4 n (k - 10)) = pe c O I T n k := by
  unfold pe
  by_cases h1 : k < 4
  · rw [if_pos (by omega), if_pos (by omega), if_pos h1, if_pos h1]
  · by_cases h2 : k = 4
    · subst h2; rfl
    · by_cases h3 : k = 5
      · subst h3; rfl
      · by_cases h4 : k < 10
        · rw [if_pos h4, if_neg (by omega), if_neg h1, if_neg h2, if_neg h3, if_pos h4]
        · rw [if_neg h4, if_neg h1, if_neg h2, if_neg h3, if_neg h4]
set_option maxRecDepth 100000 in
set_option maxHeartbeats 2000000 in
theorem rencode_good (c O I T n : Nat) (w : World) (hc : c < 4294967296) (hn : n < 4294967296) (hE : okP c O I T n) :
    Calls Tryz.prog 105 #[.agg #[.int .u32 c, .int .i64 O, .int .i64 I, .int .i64 T, .int .u32 n]] w fun e w' => ∃ a cap, e = .returned (.tuple #[.slice a 14 cap, .int .i64 0]) ∧
      Hid (w'.ownsRow w.heap.size 5 1 (.slice a 14 cap) 14 (CB (pe c O I T n) 14) ∧ Below w.heap.size w w') := by
  obtain ⟨i0, hi, hz0, hz1, hz2⟩ := info_parts info_u8
  obtain ⟨_, hO, hI, hT, _⟩ := id hE
  have hA : Below w.heap.size w (w.alloc (.cells #[.int .u32 c, .int .i64 O, .int .i64 I, .int .i64 T, .int .u32 n] 36)) := (Below.refl _ _).alloc (Nat.le_refl _) _
  have hAs : w.heap.size < (w.alloc (.cells #[.int .u32 c, .int .i64 O, .int .i64 I, .int .i64 T, .int .u32 n] 36)).heap.size := by simp
  have hL := rlaw_any c O I T n (w.alloc (.cells #[.int .u32 c, .int .i64 O, .int .i64 I, .int .i64 T, .int .u32 n] 36)) true (decide_eq_true hE)
  have hX := bx_new w c O I T n
  have hby := pe_lt (c := c) (o := O) (i := I) (t := T) (n := n) (by omega) (by omega)
  have hOm : (O : Int) % 256 = (O : Int) := by omega
  have hIm : (I : Int) % 256 = (I : Int) := by omega
  have hTm : (T : Int) % 4294967296 = (T : Int) := by omega
  have hT2 : T < 4294967296 := by omega
  have hO2 : O < 256 := by omega
  have hI2 : I < 256 := by omega
  clear hE hO hI hT
  go_enter Tryz.func105, Tryz.ntmps105
  go_wp2_with fail
  generalize w.alloc (.cells #[.int .u32 c, .int .i64 O, .int .i64 I, .int .i64 T, .int .u32 n] 36) = wa at *
  refine hL.mono ?_
  rintro e w1 ⟨rfl, hb1⟩
  have hs1 := hb1.size
  have hb2 := hb1.alloc hs1 (.cells #[] 5)
  have O2 : (w1.alloc (.cells #[] 5)).ownsRow wa.heap.size 5 1 (.slice (some ⟨w1.heap.size, 0, none⟩) 0 0) 0 (CB (fun _ => 0) 0) := World.ownsRow_made w1 #[] 0 hs1 (Nat.zero_le _) rfl
  have x0 := (hX _ hb2).c0
  clear hL
  go_wp2_with fail
  generalize w1.alloc (.cells #[] 5) = w2 at *
  refine (refWord_any c _ hc).mono ?_
  rintro e u3 ⟨rfl, rfl⟩
  have R3 := row4P w2 c hc
  have P3 := O2.alloc (.cells #[.int .u8 ((c : Int) / 16777216), .int .u8 ((c : Int) / 65536 % 256), .int .u8 ((c : Int) / 256 % 256), .int .u8 ((c : Int) % 256)] 5)
  have hs3 : wa.heap.size ≤ w2.heap.size := hb2.size
  have B3 := hb2.alloc hs3 (.cells #[.int .u8 ((c : Int) / 16777216), .int .u8 ((c : Int) / 65536 % 256), .int .u8 ((c : Int) / 256 % 256), .int .u8 ((c : Int) % 256)] 5)
  have ht3 := B3.size
  clear O2 hb2
  go_wp2_with (at_builtin; refine wpList_append_row8 rfl (.tmp 8) (.tmp 11) 22 rfl wa.heap.size 5 i0 (.int .u8 0) Tryz.underlying22 hi hz0 hz1 hz2 rfl _ 0 _ rfl P3 _ 4 4 (PM.w4 c) rfl R3 (by unfold maxLen; omega) (by omega) ht3 ?_)
  intro v3 w3 O3 G3
  have C3 : Below wa.heap.size wa w3 := B3.grown G3 ht3 (fun j hj => (P3.lt j hj).1)
  rw [CB_append] at O3
  clear R3 P3 B3 G3
  rw [CB_congr _ (PM.w4 c) _ (fun j _ => by rw [if_neg (by omega), Nat.sub_zero])] at O3
  have x1 := (hX w3 C3).c1
  have x2 := (hX w3 C3).c2
  have R4 := row2P w3 O I hO2 hI2
  have P4 := O3.alloc (.cells #[.int .u8 (O : Int), .int .u8 (I : Int)] 5)
  have hs4 := C3.size
  have B4 := C3.alloc hs4 (.cells #[.int .u8 (O : Int), .int .u8 (I : Int)] 5)
  have ht4 := B4.size
  clear O3 C3
  go_wp2_with (at_builtin; refine wpList_append_row8 rfl (.tmp 13) (.tmp 20) 22 rfl wa.heap.size 5 i0 (.int .u8 0) Tryz.underlying22 hi hz0 hz1 hz2 rfl _ 4 _ rfl P4 _ 2 2 (fun i => if i = 0 then O else I) rfl R4 (by unfold maxLen; omega) (by omega) ht4 ?_)
  intro v4 w4 O4 G4
  have C4 : Below wa.heap.size wa w4 := B4.grown G4 ht4 (fun j hj => (P4.lt j hj).1)
  rw [CB_append] at O4
  clear R4 P4 B4 G4
  have x3 := (hX w4 C4).c3
  go_wp2_with fail
  refine (refWord_any T _ hT2).mono ?_
  rintro e u5 ⟨rfl, rfl⟩
  have R5 := row4P w4 T hT2
  have P5 := O4.alloc (.cells #[.int .u8 ((T : Int) / 16777216), .int .u8 ((T : Int) / 65536 % 256), .int .u8 ((T : Int) / 256 % 256), .int .u8 ((T : Int) % 256)] 5)
  have hs5 : wa.heap.size ≤ w4.heap.size := C4.size
  have B5 := C4.alloc hs5 (.cells #[.int .u8 ((T : Int) / 16777216), .int .u8 ((T : Int) / 65536 % 256), .int .u8 ((T : Int) / 256 % 256), .int .u8 ((T : Int) % 256)] 5)
  have ht5 := B5.size
  clear O4 C4
  go_wp2_with (at_builtin; refine wpList_append_row8 rfl (.tmp 22) (.tmp 26) 22 rfl wa.heap.size 5 i0 (.int .u8 0) Tryz.underlying22 hi hz0 hz1 hz2 rfl _ 6 _ rfl P5 _ 4 4 (PM.w4 T) rfl R5 (by unfold maxLen; omega) (by omega) ht5 ?_)
  intro v5 w5 O5 G5
  have C5 : Below wa.heap.size wa w5 := B5.grown G5 ht5 (fun j hj => (P5.lt j hj).1)
  rw [CB_append] at O5
  clear R5 P5 B5 G5
  have x4 := (hX w5 C5).c4
  go_wp2_with fail
  refine (refWord_any n _ hn).mono ?_
  rintro e u6 ⟨rfl, rfl⟩
  have R6 := row4P w5 n hn
  have P6 := O5.alloc (.cells #[.int .u8 ((n : Int) / 16777216), .int .u8 ((n : Int) / 65536 % 256), .int .u8 ((n : Int) / 256 % 256), .int .u8 ((n : Int) % 256)] 5)
  have hs6 : wa.heap.size ≤ w5.heap.size := C5.size
  have B6 := C5.alloc hs6 (.cells #[.int .u8 ((n : Int) / 16777216), .int .u8 ((n : Int) / 65536 % 256), .int .u8 ((n : Int) / 256 % 256), .int .u8 ((n : Int) % 256)] 5)
  have ht6 := B6.size
  clear O5 C5
  go_wp2_with (at_builtin; refine wpList_append_row8 rfl (.tmp 28) (.tmp 31) 22 rfl wa.heap.size 5 i0 (.int .u8 0) Tryz.underlying22 hi hz0 hz1 hz2 rfl _ 10 _ rfl P6 _ 4 4 (PM.w4 n) rfl R6 (by unfold maxLen; omega) (by omega) ht6 ?_)
  intro v6 w6 O6 G6
  have C6 : Below wa.heap.size wa w6 := B6.grown G6 ht6 (fun j hj => (P6.lt j hj).1)
  rw [CB_append] at O6
  clear R6 P6 B6 G6
  rw [CB_congr _ (pe c O I T n) _ (fun j hj => pe_build c O I T n j (by omega))] at O6
  obtain ⟨a7, c7, rfl, _⟩ := own_row8 O6 (fun k _ => hby k)
  have HB : Hid (_) := And.intro (own_base O6 (Nat.le_of_lt hAs)) (hA.trans (C6.mono (Nat.le_of_lt hAs)))
  clear O6 C6 hX x0 x1 x2 x3 x4
  go_wp2_with fail
  go_ret2
  exact ⟨a7, c7, rfl, HB.out⟩
set_option maxRecDepth 100000 in
set_option maxHeartbeats 1000000 in
theorem rsign_good (c O I T n : Nat) (w : World) (hc : c < 4294967296) (hn : n < 4294967296) (hE : okP c O I T n) :
    Calls Tryz.prog 48 #[.agg #[.int .u32 c, .int .i64 O, .int .i64 I, .int .i64 T, .int .u32 n]] w fun e w' => ∃ g, e = .returned (.slice (some ⟨g, 0, none⟩) 4 4) ∧
      Hid (Row8 w' (some ⟨g, 0, none⟩) 4 4 (PM.w4 (PM.K (pe c O I T n) 14)) ∧ Below w.heap.size w w') := by
  have hb : Below w.heap.size w (w.alloc (.cells #[.int .u32 c, .int .i64 O, .int .i64 I, .int .i64 T, .int .u32 n] 36)) := (Below.refl _ _).alloc (Nat.le_refl _) _
  have hF := rencode_good c O I T n (w.alloc (.cells #[.int .u32 c, .int .i64 O, .int .i64 I, .int .i64 T, .int .u32 n] 36)) hc hn hE
  obtain ⟨_, hO, hI, _, _⟩ := hE
  have hby := pe_lt (c := c) (o := O) (i := I) (t := T) (n := n) (by omega) (by omega)
  have hk := PM.K_lt (pe c O I T n) 14
  have hB0 := fun a cap w1 (R1 : Row8 w1 a 14 cap (pe c O I T n)) => refSum_row a 14 cap (pe c O I T n) w1 R1 (by omega)
  obtain ⟨k, hkd⟩ : ∃ k, k = PM.K (pe c O I T n) 14 := ⟨_, rfl⟩
  rw [← hkd] at hk hB0 ⊢
  clear hO hI hkd
  go_enter Tryz.func48, Tryz.ntmps48
  go_wp2_with fail
  refine hF.mono ?_
  rintro e w1 ⟨a, cap, rfl, H1⟩
  obtain ⟨O1, hb1⟩ := H1.out
  have hb2 := below_all hb hb.size hb1
  obtain ⟨a1, c1, e1, R1⟩ := own_row8 O1 (fun k _ => hby k)
  simp only [Value.slice.injEq, true_and] at e1
  obtain ⟨rfl, rfl⟩ := e1
  have hB := hB0 _ _ w1 R1
  clear hb hF hb1 H1 O1 R1 hby hB0
  go_wp2_with fail
  refine hB.mono ?_
  rintro e w2 ⟨rfl, hb3'⟩
  have hb3 := below_all hb2 hb2.size hb3'
  clear hB hb3' hb2
  go_wp2_with fail
  refine (refWord_any k _ hk).mono ?_
  rintro e w4 ⟨rfl, rfl⟩
  have HB : Hid (_) := And.intro (row4P w2 k hk) (hb3.alloc hb3.size (.cells #[.int .u8 ((k : Int) / 16777216), .int .u8 ((k : Int) / 65536 % 256), .int .u8 ((k : Int) / 256 % 256), .int .u8 ((k : Int) % 256)] 5))
  clear hb3 hk
  go_wp2_with fail
  go_ret
  exact ⟨_, rfl, HB.out⟩
end Go.Proofs.YtndjepeolamedaaGreat
